/-
  What is proved here: tandemlaw10.PackReads of any bytes that come in.
-/
import Derived.Test.YtilcigjhogcjkaaPZ9
import Derived.Test.YtilcigjhogcjkaaYRPKSpE
import Derived.Test.YtilcigjhogcjkaaYRPKLiftC
import Derived.Test.YtilcigjhogcjkaaPZ18
namespace Go.Proofs.Ytilcigjhogcjkaa
open Go Go.RowKit
theorem cpyR (w : World) (ao : Option Addr) (n cap : Nat) (l : List Nat) (h : BM w ao n cap l) (hl : l.length ≤ 100000000) :
    Calls Try.prog 14 #[.slice ao n cap] w fun e w' => ∃ v', e = .returned v' ∧ ByAt w' w.heap.size v' l ∧ Fr (fun _ => False) w w' := by
  obtain ⟨iU, hiU, zU0, zU1, zU2⟩ := info_parts infoU8
  obtain ⟨h0, hn, hnews⟩ := h
  have hcl : (cL l).length = n * 1 := by rw [cL_len, hn]; omega
  have hN := hide hn
  clear hn
  go_enter Try.func14, Try.ntmps14
  go_wp2_with (at_builtin; refine wpList_cpy rfl _ _ 23 rfl 5 iU _ 1 1 Try.underlying23 hiU zU0 zU1 zU2 rfl (by decide) rfl ao n cap rfl h0 (cL l) hcl hnews (cL_one _) (by have := hN.out; unfold maxLen; omega) (by have := hN.out; omega) ?_; intro v' w' own F; have HO := hide own; have HF := hide F; clear own F)
  go_ret
  refine ⟨_, rfl, ?_, HF.out⟩
  have := HO.out
  rw [hN.out] at this
  exact this

theorem rowD_le {α : Type} {w : World} {P : α → List Value → Prop} {v : Value} {ps : List α} (h : RowD w P v ps) : ps.length ≤ 9223372036854775807 := by
  obtain ⟨_, _, _, h1, h2, _⟩ := h
  omega

theorem upFr2 {a b : World} (h : Up a b) : Fr (fun _ => False) a b := ⟨h.os, h.tape, h.output, h.size, fun k hk _ => h.block k hk⟩

/-- Both readers of any bytes that came in. -/
theorem lread_no {h : Nat} (hh : 100 ≤ h) (w : World) (ao : Option Addr) (n cap : Nat) (l : List Nat) (hb : BM w ao n cap l) (hc : n ≤ cap ∧ cap ≤ 9223372036854775807) (h8 : By8 l) (hl : l.length ≤ 100000000) (hx : rdPrg h l 20000 = none) :
    Calls Try.prog 15 #[.slice ao n cap] w fun e w' => e = .returned (.tuple #[.slice none 0 0, .int .i64 30]) ∧ Fr (fun _ => False) w w' := by
  by_cases hp : l = []
  · have e := hb.2.1
    subst hp
    have e' : n = 0 := e
    subst e'
    exact lread_empty w ao cap
  · have hB := BM.bl hb hc.1 hc.2 hp
    refine (lread_any hh w _ l hB h8 hl).mono fun e w' hr => ?_
    obtain ⟨F, ho⟩ := hr
    refine ⟨?_, F⟩
    cases hx2 : lrPrg h l 20000 with
    | none =>
      rw [hx2] at ho
      exact ho
    | some ps =>
      rw [hx2] at ho
      cases hm : mayW ps with
      | false =>
        have ho' : (if mayW ps = true then _ else _) := ho
        rw [hm] at ho'
        exact ho'
      | true =>
        exact absurd ((rd_iff h8).2 ⟨hx2, hm⟩) (by rw [hx]; intro e; cases e)

theorem lread_yes {h : Nat} (hh : 100 ≤ h) (w : World) (ao : Option Addr) (n cap : Nat) (l : List Nat) (hb : BM w ao n cap l) (hc : n ≤ cap ∧ cap ≤ 9223372036854775807) (h8 : By8 l) (hl : l.length ≤ 100000000) (ps : List (PC h)) (hx : rdPrg h l 20000 = some ps) :
    Calls Try.prog 15 #[.slice ao n cap] w fun e w' => (∃ ao' cap', e = .returned (.tuple #[.slice ao' ps.length cap', .int .i64 0]) ∧ RowD w' (PCell w') (.slice ao' ps.length cap') ps) ∧ Fr (fun _ => False) w w' := by
  obtain ⟨hx2, hm⟩ := (rd_iff h8).1 hx
  have hp : l ≠ [] := by
    intro e
    rw [e] at hx2
    simp [lrPrg] at hx2
  have hB := BM.bl hb hc.1 hc.2 hp
  refine (lread_any hh w _ l hB h8 hl).mono fun e w' hr => ?_
  obtain ⟨F, ho⟩ := hr
  refine ⟨?_, F⟩
  rw [hx2] at ho
  have ho' : (if mayW ps = true then _ else _) := ho
  rw [if_pos hm] at ho'
  exact ho'

set_option maxRecDepth 20000 in
set_option maxHeartbeats 4000000 in
theorem reads_N {N : Nat} (hN : 100 ≤ N) (w : World) (mo : Option Addr) (mn mc : Nat) (lm : List Nat) (hm : BM w mo mn mc lm) (hc : mn ≤ mc ∧ mc ≤ 9223372036854775807) (h8m : By8 lm) (hlm : lm.length ≤ 1048576) :
    Calls Try.prog 4 #[.slice mo mn mc] w fun e w' => e = .returned (.bool true) ∧ Fr (fun _ => False) w w' := by
  have HKA := hide (fun (W : World) => awake_any W)
  have HM := hide hm
  have HC := hide hc
  have H8M := hide h8m
  have hll : lm.length ≤ 100000000 := by omega
  cases hx : rdPrg N lm 20000 with
  | none =>
    have HNO := hide hx
    have HN0 : ∀ W : World, RowD W (PCell W) (.slice none 0 0) ([] : List (PC N)) := fun W => ⟨none, 0, rfl, Nat.le_refl _, by decide, .inl rfl⟩
    have HSP := hide (fun (W : World) => sameP_eq W ([] : List (PC N)) [] none none 0 0 0 (HN0 W) (HN0 W) rfl rfl rfl (by decide) (fun _ _ _ => rfl) (fun _ _ _ => .inl rfl) (fun _ _ _ => .inl rfl))
    clear hx hm hc h8m HN0
    go_enter Try.func4, Try.ntmps4
    go_wp2_with (first
      | (go_at_call 12; refine (HKA.out _).mono ?_; rintro e9 w9 ⟨rfl, F9⟩; have HF9 := hide (HF4.out.trans F9 (fun _ _ e => e)); clear F9)
      | (go_at_call 16; refine (HSP.out _).mono ?_; rintro e4 w4 ⟨r4, rfl, hr4, u4⟩; obtain rfl : r4 = true := hr4.2 rfl; have HF4 := hide (HF3.out.trans (upFr2 u4) (fun _ _ e => e)); clear hr4 u4)
      | (go_at_call 15; refine (lread_no hN _ _ _ _ lm (BM.up HM.out HF2.out.upw') HC.out H8M.out hll HNO.out).mono ?_; rintro e3 w3 ⟨rfl, F3⟩; have HF3 := hide (HF2.out.trans F3 (fun _ _ e => e)); clear F3)
      | (go_at_call 13; refine (read_no hN _ _ lm HB1.out.bl H8M.out hll HNO.out).mono ?_; rintro e2 w2 ⟨rfl, F2⟩; have HF2 := hide (HF1.out.trans F2 (fun _ _ e => e)); clear F2)
      | (go_at_call 14; refine (cpyR _ _ _ _ _ HM.out hll).mono ?_; rintro e1 w1 ⟨v1, rfl, hb1, F1⟩; have HB1 := hide hb1; have HF1 := hide F1; clear F1 hb1))
    go_ret
    exact ⟨rfl, HF9.out⟩
  | some ps =>
    have HYES := hide hx
    clear hx hm hc h8m
    go_enter Try.func4, Try.ntmps4
    go_wp2_with (first
      | (go_at_call 12; refine (HKA.out _).mono ?_; rintro e9 w9 ⟨rfl, F9⟩; have HF9 := hide (HF4.out.trans F9 (fun _ _ e => e)); clear F9)
      | (go_at_call 16; refine (sameP_eq _ ps ps _ _ _ _ _ (HQ2.out.up F3h.out.upw' (fun _ _ h => h.up F3h.out.upw')) HQ3.out rfl rfl rfl (rowD_le HQ2.out) (fun _ _ _ => rfl) (fun _ _ _ => .inl rfl) (fun _ _ _ => .inl rfl)).mono ?_; rintro e4 w4 ⟨r4, rfl, hr4, u4⟩; obtain rfl : r4 = true := hr4.2 rfl; have HF4 := hide (HF3.out.trans (upFr2 u4) (fun _ _ e => e)); clear hr4 u4)
      | (go_at_call 15; refine (lread_yes hN _ _ _ _ lm (BM.up HM.out HF2.out.upw') HC.out H8M.out hll ps HYES.out).mono ?_; rintro e3 w3 ⟨⟨a3, c3, rfl, hq3⟩, F3⟩; have HQ3 := hide hq3; have F3h := hide F3; have HF3 := hide (HF2.out.trans F3 (fun _ _ e => e)); clear F3 hq3)
      | (go_at_call 13; refine (read_yes hN _ _ lm HB1.out.bl H8M.out hll ps HYES.out).mono ?_; rintro e2 w2 ⟨⟨a2, rfl, hq2⟩, F2⟩; have HQ2 := hide hq2; have HF2 := hide (HF1.out.trans F2 (fun _ _ e => e)); clear F2 hq2)
      | (go_at_call 14; refine (cpyR _ _ _ _ _ HM.out hll).mono ?_; rintro e1 w1 ⟨v1, rfl, hb1, F1⟩; have HB1 := hide hb1; have HF1 := hide F1; clear F1 hb1))
    go_ret
    exact ⟨rfl, HF9.out⟩

theorem reads_walk (w : World) (mo : Option Addr) (mn mc : Nat) (lm : List Nat) (hm : BM w mo mn mc lm ∧ mn ≤ mc ∧ mc ≤ 9223372036854775807) (h8m : By8 lm) (hlm : lm.length ≤ 1048576) :
    Calls Try.prog 4 #[.slice mo mn mc] w fun e w' => e = .returned (.bool true) ∧ Fr (fun _ => False) w w' :=
  reads_N (N := 200) (by decide) w mo mn mc lm hm.1 hm.2 h8m hlm

end Go.Proofs.Ytilcigjhogcjkaa
