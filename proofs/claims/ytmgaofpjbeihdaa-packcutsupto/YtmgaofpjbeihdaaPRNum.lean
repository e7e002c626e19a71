/-
  What is proved here: the reader's number (package pack): what it makes of bytes.
-/
import Derived.Test.YtmgaofpjbeihdaaPRTake
import Derived.Test.YtmgaofpjbeihdaaPKFit
namespace Go.Proofs.Ytmgaofpjbeihdaa
open Go Go.RowKit

/-- A number of bytes; behind i groups that say acc. -/
def rdG : Nat → Nat → Nat → List Nat → Option (Nat × List Nat)
  | 0, _, _, _ => none
  | _ + 1, _, _, [] => none
  | f + 1, i, acc, b :: l => if b < 128 then (if (0 < b ∨ i = 0) ∧ acc + b * 128 ^ i ≤ 1099511627776 then some (acc + b * 128 ^ i, l) else none) else rdG f (i + 1) (acc + b % 128 * 128 ^ i) l
def rdNum (l : List Nat) : Option (Nat × List Nat) := rdG 6 0 0 l
/-- What comes of a call of the reader's. -/
def RQ {α : Type} (w : World) (rb : Nat) (ok : α → Ending → World → Prop) (out : Option α) (e : Ending) (w' : World) : Prop := Fr (fun j => j = rb) w w' ∧ match out with
  | none => e = .panicked PAN
  | some a => ok a e w'
def okN (w0 : World) (rb p : Nat) (x : Nat × List Nat) (e : Ending) (w' : World) : Prop := e = .returned (.int .i64 (x.1 : Int)) ∧ RS w0 w' rb x.2 p
theorem BL.one {w W : World} {v : Value} {b : Nat} {l : List Nat} (h : BL w v ((b :: l).take 1)) (u : Up w W) : ∃ g off cap, v = .slice (some ⟨g, off, none⟩) 1 cap ∧ W.cell? ⟨g, off, none⟩ = some (.int .u8 (b : Int)) := by
  obtain ⟨ao, cap, e, h1, h2, h3⟩ := h.up u
  rcases h3 with ⟨rfl, rfl⟩ | ⟨g, off, rfl, hc⟩
  · simp at h1
  · exact ⟨g, off, cap, by simpa using e, by simpa using hc 0 (by simp)⟩

theorem rdG_last (i acc : Nat) (l : List Nat) : rdG 0 i acc l = none := rfl
theorem rdG_nil (f i acc : Nat) : rdG f i acc [] = none := by cases f <;> rfl
theorem rdG_cons (f i acc b : Nat) (l : List Nat) : rdG (f + 1) i acc (b :: l) = if b < 128 then (if (0 < b ∨ i = 0) ∧ acc + b * 128 ^ i ≤ 1099511627776 then some (acc + b * 128 ^ i, l) else none) else rdG f (i + 1) (acc + b % 128 * 128 ^ i) l := rfl
theorem RS.mono {w0 w w' : World} {rb p : Nat} {l : List Nat} (h : RS w0 w rb l p) (u : Up w w') : RS w0 w' rb l p := by
  obtain ⟨hU, hrb, v, hB, hR⟩ := h
  exact ⟨hU.tr u, hrb, v, hB, (u.block rb hR.lt).trans hR⟩

set_option maxRecDepth 20000 in
set_option maxHeartbeats 2000000 in
theorem rdnum_any (w0 w : World) (rb p : Nat) (l : List Nat) (h : RS w0 w rb l p) (h8 : By8 l) :
    Calls Try.prog 60 #[.pointer (some ⟨rb, 0, none⟩)] w fun e w' => RQ w rb (okN w0 rb p) (rdNum l) e w' := by
  obtain ⟨out, hout⟩ : ∃ o, o = rdNum l := ⟨_, rfl⟩
  rw [← hout]
  have HRS := hide h
  have HOUT := hide hout
  have H8 := hide h8
  have HN := hide (fun (v : Int) (W : World) => isNumber_any v W)
  clear h hout h8
  go_enter Try.func60, Try.ntmps60
  go_wp2
  go_loopw [3, 8] (fun n c wr => ∃ (i acc : Nat) (m : List Nat), i ≤ 6 ∧ c = .int .i64 (i : Int) ∧ n = .int .i64 (acc : Int) ∧ acc < 128 ^ i ∧ RS w0 wr rb m p ∧ Fr (fun j => j = rb) w wr ∧ By8 m ∧ out = rdG (6 - i) i acc m) (fun _ c _ => 6 - (intOf c).toNat)
  case atStart => exact ⟨0, 0, l, by decide, rfl, rfl, by decide, HRS.out, Fr.refl _ _, H8.out, HOUT.out⟩
  case round =>
    obtain ⟨i, acc, m, hi, rfl, rfl, hacc, hrs, hF, hm8, ho⟩ := hrel
    by_cases hi6 : i < 6
    · match m, hrs, hm8, ho with
      | [], hrs, hm8, ho =>
        rw [rdG_nil] at ho
        have HT := hide (rtake_no w0 wr rb p 1 [] hrs (by decide) (by decide))
        have hiI : (i : Int) < 6 := by omega
        have HFF := hide hF
        have HO := hide ho
        clear hrs hF ho hacc HRS HOUT H8
        go_wp2_with (go_at_call 47; refine HT.out.mono ?_; rintro e1 w1 ⟨rfl, hw⟩; replace hw := hw.symm; subst hw)
        rw [HO.out]
        exact ⟨rfl, HFF.out, rfl⟩
      | b :: m, hrs, hm8, ho =>
        have hb : b < 256 := hm8 b (List.mem_cons_self ..)
        have hm8' : By8 m := fun x hx => hm8 x (List.mem_cons_of_mem _ hx)
        have HT := hide (rtake_yes w0 wr rb p 1 (b :: m) hrs (by simp))
        have hiI : (i : Int) < 6 := by omega
        have HFF := hide hF
        have HM8 := hide hm8'
        rw [show 6 - i = (5 - i) + 1 by omega, rdG_cons] at ho
        have HO := hide ho
        clear hrs hF ho hm8 hm8' HRS HOUT H8
        have hi5 : i = 0 ∨ i = 1 ∨ i = 2 ∨ i = 3 ∨ i = 4 ∨ i = 5 := by omega
        rcases hi5 with rfl | rfl | rfl | rfl | rfl | rfl
        · have hpow : (128 : Nat) ^ 0 = 1 := by decide
          rw [hpow] at hacc HO
          have ha0 : acc = 0 := by omega
          subst ha0
          by_cases hb1 : b < 128
          · have gb : (b : Int) < 128 := by omega
            by_cases hz : 0 < b
            · have gz : (0 : Int) < (b : Int) % 128 := by omega
              by_cases hn : b ≤ 1099511627776
              · have hq : isNum ((b : Int) % 128) = true := by simp [isNum]; omega
                have HV : Hid (out = some (b, m)) := by
                  unfold Hid
                  rw [HO.out, if_pos hb1, if_pos (by simp; omega)]
                  simp
                clear HO
                go_wp2_with (first
                  | (go_at_call 47; refine HT.out.mono ?_; rintro e1 w1 ⟨v1, rfl, hb1, hr1, F1⟩; obtain ⟨g, off, cap, rfl, hc⟩ := BL.one hb1 hr1.1; have HR1 := hide hr1; have HF1 := hide (HFF.out.trans F1 (fun _ _ e => e)); clear hb1 hr1 F1)
                  | (go_at_call 37; refine (HN.out _ _).mono ?_; rintro e2 w2 ⟨rfl, hw⟩; replace hw := hw.symm; subst hw)
                  | (go_at_call_of 46 (Value.bool true); refine (must_yes _).mono ?_; rintro e3 w3 ⟨rfl, hw⟩; replace hw := hw.symm; subst hw))
                go_ret
                rw [HV.out]
                have e : ((b : Int) % 128) = ((b : Nat) : Int) := by omega
                exact ⟨HF1.out, congrArg (fun z : Int => Ending.returned (Value.int .i64 z)) e, HR1.out⟩
              · have hq : isNum ((b : Int) % 128) = false := by simp [isNum]; omega
                have HV : Hid (out = none) := by
                  unfold Hid
                  rw [HO.out, if_pos hb1, if_neg (by simp; omega)]
                clear HO
                go_wp2_with (first
                  | (go_at_call 47; refine HT.out.mono ?_; rintro e1 w1 ⟨v1, rfl, hb1, hr1, F1⟩; obtain ⟨g, off, cap, rfl, hc⟩ := BL.one hb1 hr1.1; have HR1 := hide hr1; have HF1 := hide (HFF.out.trans F1 (fun _ _ e => e)); clear hb1 hr1 F1)
                  | (go_at_call 37; refine (HN.out _ _).mono ?_; rintro e2 w2 ⟨rfl, hw⟩; replace hw := hw.symm; subst hw)
                  | (go_at_call_of 46 (Value.bool false); refine (must_no _).mono ?_; rintro e3 w3 ⟨rfl, hw⟩; replace hw := hw.symm; subst hw))
                rw [HV.out]
                exact ⟨rfl, HF1.out, rfl⟩
            · have gz : ¬ ((0 : Int) < (b : Int) % 128) := by omega
              by_cases hn : b ≤ 1099511627776
              · have hq : isNum ((b : Int) % 128) = true := by simp [isNum]; omega
                have HV : Hid (out = some (b, m)) := by
                  unfold Hid
                  rw [HO.out, if_pos hb1, if_pos (by simp; omega)]
                  simp
                clear HO
                go_wp2_with (first
                  | (go_at_call 47; refine HT.out.mono ?_; rintro e1 w1 ⟨v1, rfl, hb1, hr1, F1⟩; obtain ⟨g, off, cap, rfl, hc⟩ := BL.one hb1 hr1.1; have HR1 := hide hr1; have HF1 := hide (HFF.out.trans F1 (fun _ _ e => e)); clear hb1 hr1 F1)
                  | (go_at_call 37; refine (HN.out _ _).mono ?_; rintro e2 w2 ⟨rfl, hw⟩; replace hw := hw.symm; subst hw)
                  | (go_at_call_of 46 (Value.bool true); refine (must_yes _).mono ?_; rintro e3 w3 ⟨rfl, hw⟩; replace hw := hw.symm; subst hw))
                go_ret
                rw [HV.out]
                have e : ((b : Int) % 128) = ((b : Nat) : Int) := by omega
                exact ⟨HF1.out, congrArg (fun z : Int => Ending.returned (Value.int .i64 z)) e, HR1.out⟩
              · have hq : isNum ((b : Int) % 128) = false := by simp [isNum]; omega
                have HV : Hid (out = none) := by
                  unfold Hid
                  rw [HO.out, if_pos hb1, if_neg (by simp; omega)]
                clear HO
                go_wp2_with (first
                  | (go_at_call 47; refine HT.out.mono ?_; rintro e1 w1 ⟨v1, rfl, hb1, hr1, F1⟩; obtain ⟨g, off, cap, rfl, hc⟩ := BL.one hb1 hr1.1; have HR1 := hide hr1; have HF1 := hide (HFF.out.trans F1 (fun _ _ e => e)); clear hb1 hr1 F1)
                  | (go_at_call 37; refine (HN.out _ _).mono ?_; rintro e2 w2 ⟨rfl, hw⟩; replace hw := hw.symm; subst hw)
                  | (go_at_call_of 46 (Value.bool false); refine (must_no _).mono ?_; rintro e3 w3 ⟨rfl, hw⟩; replace hw := hw.symm; subst hw))
                rw [HV.out]
                exact ⟨rfl, HF1.out, rfl⟩
          · have gb : ¬ ((b : Int) < 128) := by omega
            have HV : Hid (out = rdG 5 1 (b % 128) m) := by
              unfold Hid
              rw [HO.out, if_neg hb1]; simp
            clear HO
            go_wp2_with (go_at_call 47; refine HT.out.mono ?_; rintro e1 w1 ⟨v1, rfl, hb1, hr1, F1⟩; obtain ⟨g, off, cap, rfl, hc⟩ := BL.one hb1 hr1.1; have HR1 := hide hr1; have HF1 := hide (HFF.out.trans F1 (fun _ _ e => e)); clear hb1 hr1 F1)
            refine ⟨⟨1, b % 128, m, by decide, rfl, by go_num, by omega, HR1.out, HF1.out, HM8.out, HV.out⟩, by simp [intOf]⟩
        · have hpow : (128 : Nat) ^ 1 = 128 := by decide
          rw [hpow] at hacc HO
          by_cases hb1 : b < 128
          · have gb : (b : Int) < 128 := by omega
            by_cases hz : 0 < b
            · have gz : (0 : Int) < (b : Int) % 128 := by omega
              by_cases hn : acc + b * 128 ≤ 1099511627776
              · have hq : isNum ((acc : Int) + (b : Int) % 128 * 128) = true := by simp [isNum]; omega
                have HV : Hid (out = some (acc + b * 128, m)) := by
                  unfold Hid
                  rw [HO.out, if_pos hb1, if_pos (by simp; omega)]
                clear HO
                go_wp2_with (first
                  | (go_at_call 47; refine HT.out.mono ?_; rintro e1 w1 ⟨v1, rfl, hb1, hr1, F1⟩; obtain ⟨g, off, cap, rfl, hc⟩ := BL.one hb1 hr1.1; have HR1 := hide hr1; have HF1 := hide (HFF.out.trans F1 (fun _ _ e => e)); clear hb1 hr1 F1)
                  | (go_at_call 37; refine (HN.out _ _).mono ?_; rintro e2 w2 ⟨rfl, hw⟩; replace hw := hw.symm; subst hw)
                  | (go_at_call_of 46 (Value.bool true); refine (must_yes _).mono ?_; rintro e3 w3 ⟨rfl, hw⟩; replace hw := hw.symm; subst hw))
                go_ret
                rw [HV.out]
                have e : ((acc : Int) + (b : Int) % 128 * 128) = ((acc + b * 128 : Nat) : Int) := by omega
                exact ⟨HF1.out, congrArg (fun z : Int => Ending.returned (Value.int .i64 z)) e, HR1.out⟩
              · have hq : isNum ((acc : Int) + (b : Int) % 128 * 128) = false := by simp [isNum]; omega
                have HV : Hid (out = none) := by
                  unfold Hid
                  rw [HO.out, if_pos hb1, if_neg (by simp; omega)]
                clear HO
                go_wp2_with (first
                  | (go_at_call 47; refine HT.out.mono ?_; rintro e1 w1 ⟨v1, rfl, hb1, hr1, F1⟩; obtain ⟨g, off, cap, rfl, hc⟩ := BL.one hb1 hr1.1; have HR1 := hide hr1; have HF1 := hide (HFF.out.trans F1 (fun _ _ e => e)); clear hb1 hr1 F1)
                  | (go_at_call 37; refine (HN.out _ _).mono ?_; rintro e2 w2 ⟨rfl, hw⟩; replace hw := hw.symm; subst hw)
                  | (go_at_call_of 46 (Value.bool false); refine (must_no _).mono ?_; rintro e3 w3 ⟨rfl, hw⟩; replace hw := hw.symm; subst hw))
                rw [HV.out]
                exact ⟨rfl, HF1.out, rfl⟩
            · have gz : ¬ ((0 : Int) < (b : Int) % 128) := by omega
              have HV : Hid (out = none) := by
                unfold Hid
                rw [HO.out, if_pos hb1, if_neg (by simp; omega)]
              clear HO
              go_wp2_with (first
                | (go_at_call 47; refine HT.out.mono ?_; rintro e1 w1 ⟨v1, rfl, hb1, hr1, F1⟩; obtain ⟨g, off, cap, rfl, hc⟩ := BL.one hb1 hr1.1; have HR1 := hide hr1; have HF1 := hide (HFF.out.trans F1 (fun _ _ e => e)); clear hb1 hr1 F1)
                | (go_at_call_of 46 (Value.bool false); refine (must_no _).mono ?_; rintro e3 w3 ⟨rfl, hw⟩; replace hw := hw.symm; subst hw))
              rw [HV.out]
              exact ⟨rfl, HF1.out, rfl⟩
          · have gb : ¬ ((b : Int) < 128) := by omega
            have HV : Hid (out = rdG 4 2 (acc + b % 128 * 128) m) := by
              unfold Hid
              rw [HO.out, if_neg hb1]
            clear HO
            go_wp2_with (go_at_call 47; refine HT.out.mono ?_; rintro e1 w1 ⟨v1, rfl, hb1, hr1, F1⟩; obtain ⟨g, off, cap, rfl, hc⟩ := BL.one hb1 hr1.1; have HR1 := hide hr1; have HF1 := hide (HFF.out.trans F1 (fun _ _ e => e)); clear hb1 hr1 F1)
            refine ⟨⟨2, acc + b % 128 * 128, m, by decide, rfl, by go_num, by omega, HR1.out, HF1.out, HM8.out, HV.out⟩, by simp [intOf]⟩
        · have hpow : (128 : Nat) ^ 2 = 16384 := by decide
          rw [hpow] at hacc HO
          by_cases hb1 : b < 128
          · have gb : (b : Int) < 128 := by omega
            by_cases hz : 0 < b
            · have gz : (0 : Int) < (b : Int) % 128 := by omega
              by_cases hn : acc + b * 16384 ≤ 1099511627776
              · have hq : isNum ((acc : Int) + (b : Int) % 128 * 16384) = true := by simp [isNum]; omega
                have HV : Hid (out = some (acc + b * 16384, m)) := by
                  unfold Hid
                  rw [HO.out, if_pos hb1, if_pos (by simp; omega)]
                clear HO
                go_wp2_with (first
                  | (go_at_call 47; refine HT.out.mono ?_; rintro e1 w1 ⟨v1, rfl, hb1, hr1, F1⟩; obtain ⟨g, off, cap, rfl, hc⟩ := BL.one hb1 hr1.1; have HR1 := hide hr1; have HF1 := hide (HFF.out.trans F1 (fun _ _ e => e)); clear hb1 hr1 F1)
                  | (go_at_call 37; refine (HN.out _ _).mono ?_; rintro e2 w2 ⟨rfl, hw⟩; replace hw := hw.symm; subst hw)
                  | (go_at_call_of 46 (Value.bool true); refine (must_yes _).mono ?_; rintro e3 w3 ⟨rfl, hw⟩; replace hw := hw.symm; subst hw))
                go_ret
                rw [HV.out]
                have e : ((acc : Int) + (b : Int) % 128 * 16384) = ((acc + b * 16384 : Nat) : Int) := by omega
                exact ⟨HF1.out, congrArg (fun z : Int => Ending.returned (Value.int .i64 z)) e, HR1.out⟩
              · have hq : isNum ((acc : Int) + (b : Int) % 128 * 16384) = false := by simp [isNum]; omega
                have HV : Hid (out = none) := by
                  unfold Hid
                  rw [HO.out, if_pos hb1, if_neg (by simp; omega)]
                clear HO
                go_wp2_with (first
                  | (go_at_call 47; refine HT.out.mono ?_; rintro e1 w1 ⟨v1, rfl, hb1, hr1, F1⟩; obtain ⟨g, off, cap, rfl, hc⟩ := BL.one hb1 hr1.1; have HR1 := hide hr1; have HF1 := hide (HFF.out.trans F1 (fun _ _ e => e)); clear hb1 hr1 F1)
                  | (go_at_call 37; refine (HN.out _ _).mono ?_; rintro e2 w2 ⟨rfl, hw⟩; replace hw := hw.symm; subst hw)
                  | (go_at_call_of 46 (Value.bool false); refine (must_no _).mono ?_; rintro e3 w3 ⟨rfl, hw⟩; replace hw := hw.symm; subst hw))
                rw [HV.out]
                exact ⟨rfl, HF1.out, rfl⟩
            · have gz : ¬ ((0 : Int) < (b : Int) % 128) := by omega
              have HV : Hid (out = none) := by
                unfold Hid
                rw [HO.out, if_pos hb1, if_neg (by simp; omega)]
              clear HO
              go_wp2_with (first
                | (go_at_call 47; refine HT.out.mono ?_; rintro e1 w1 ⟨v1, rfl, hb1, hr1, F1⟩; obtain ⟨g, off, cap, rfl, hc⟩ := BL.one hb1 hr1.1; have HR1 := hide hr1; have HF1 := hide (HFF.out.trans F1 (fun _ _ e => e)); clear hb1 hr1 F1)
                | (go_at_call_of 46 (Value.bool false); refine (must_no _).mono ?_; rintro e3 w3 ⟨rfl, hw⟩; replace hw := hw.symm; subst hw))
              rw [HV.out]
              exact ⟨rfl, HF1.out, rfl⟩
          · have gb : ¬ ((b : Int) < 128) := by omega
            have HV : Hid (out = rdG 3 3 (acc + b % 128 * 16384) m) := by
              unfold Hid
              rw [HO.out, if_neg hb1]
            clear HO
            go_wp2_with (go_at_call 47; refine HT.out.mono ?_; rintro e1 w1 ⟨v1, rfl, hb1, hr1, F1⟩; obtain ⟨g, off, cap, rfl, hc⟩ := BL.one hb1 hr1.1; have HR1 := hide hr1; have HF1 := hide (HFF.out.trans F1 (fun _ _ e => e)); clear hb1 hr1 F1)
            refine ⟨⟨3, acc + b % 128 * 16384, m, by decide, rfl, by go_num, by omega, HR1.out, HF1.out, HM8.out, HV.out⟩, by simp [intOf]⟩
        · have hpow : (128 : Nat) ^ 3 = 2097152 := by decide
          rw [hpow] at hacc HO
          by_cases hb1 : b < 128
          · have gb : (b : Int) < 128 := by omega
            by_cases hz : 0 < b
            · have gz : (0 : Int) < (b : Int) % 128 := by omega
              by_cases hn : acc + b * 2097152 ≤ 1099511627776
              · have hq : isNum ((acc : Int) + (b : Int) % 128 * 2097152) = true := by simp [isNum]; omega
                have HV : Hid (out = some (acc + b * 2097152, m)) := by
                  unfold Hid
                  rw [HO.out, if_pos hb1, if_pos (by simp; omega)]
                clear HO
                go_wp2_with (first
                  | (go_at_call 47; refine HT.out.mono ?_; rintro e1 w1 ⟨v1, rfl, hb1, hr1, F1⟩; obtain ⟨g, off, cap, rfl, hc⟩ := BL.one hb1 hr1.1; have HR1 := hide hr1; have HF1 := hide (HFF.out.trans F1 (fun _ _ e => e)); clear hb1 hr1 F1)
                  | (go_at_call 37; refine (HN.out _ _).mono ?_; rintro e2 w2 ⟨rfl, hw⟩; replace hw := hw.symm; subst hw)
                  | (go_at_call_of 46 (Value.bool true); refine (must_yes _).mono ?_; rintro e3 w3 ⟨rfl, hw⟩; replace hw := hw.symm; subst hw))
                go_ret
                rw [HV.out]
                have e : ((acc : Int) + (b : Int) % 128 * 2097152) = ((acc + b * 2097152 : Nat) : Int) := by omega
                exact ⟨HF1.out, congrArg (fun z : Int => Ending.returned (Value.int .i64 z)) e, HR1.out⟩
              · have hq : isNum ((acc : Int) + (b : Int) % 128 * 2097152) = false := by simp [isNum]; omega
                have HV : Hid (out = none) := by
                  unfold Hid
                  rw [HO.out, if_pos hb1, if_neg (by simp; omega)]
                clear HO
                go_wp2_with (first
                  | (go_at_call 47; refine HT.out.mono ?_; rintro e1 w1 ⟨v1, rfl, hb1, hr1, F1⟩; obtain ⟨g, off, cap, rfl, hc⟩ := BL.one hb1 hr1.1; have HR1 := hide hr1; have HF1 := hide (HFF.out.trans F1 (fun _ _ e => e)); clear hb1 hr1 F1)
                  | (go_at_call 37; refine (HN.out _ _).mono ?_; rintro e2 w2 ⟨rfl, hw⟩; replace hw := hw.symm; subst hw)
                  | (go_at_call_of 46 (Value.bool false); refine (must_no _).mono ?_; rintro e3 w3 ⟨rfl, hw⟩; replace hw := hw.symm; subst hw))
                rw [HV.out]
                exact ⟨rfl, HF1.out, rfl⟩
            · have gz : ¬ ((0 : Int) < (b : Int) % 128) := by omega
              have HV : Hid (out = none) := by
                unfold Hid
                rw [HO.out, if_pos hb1, if_neg (by simp; omega)]
              clear HO
              go_wp2_with (first
                | (go_at_call 47; refine HT.out.mono ?_; rintro e1 w1 ⟨v1, rfl, hb1, hr1, F1⟩; obtain ⟨g, off, cap, rfl, hc⟩ := BL.one hb1 hr1.1; have HR1 := hide hr1; have HF1 := hide (HFF.out.trans F1 (fun _ _ e => e)); clear hb1 hr1 F1)
                | (go_at_call_of 46 (Value.bool false); refine (must_no _).mono ?_; rintro e3 w3 ⟨rfl, hw⟩; replace hw := hw.symm; subst hw))
              rw [HV.out]
              exact ⟨rfl, HF1.out, rfl⟩
          · have gb : ¬ ((b : Int) < 128) := by omega
            have HV : Hid (out = rdG 2 4 (acc + b % 128 * 2097152) m) := by
              unfold Hid
              rw [HO.out, if_neg hb1]
            clear HO
            go_wp2_with (go_at_call 47; refine HT.out.mono ?_; rintro e1 w1 ⟨v1, rfl, hb1, hr1, F1⟩; obtain ⟨g, off, cap, rfl, hc⟩ := BL.one hb1 hr1.1; have HR1 := hide hr1; have HF1 := hide (HFF.out.trans F1 (fun _ _ e => e)); clear hb1 hr1 F1)
            refine ⟨⟨4, acc + b % 128 * 2097152, m, by decide, rfl, by go_num, by omega, HR1.out, HF1.out, HM8.out, HV.out⟩, by simp [intOf]⟩
        · have hpow : (128 : Nat) ^ 4 = 268435456 := by decide
          rw [hpow] at hacc HO
          by_cases hb1 : b < 128
          · have gb : (b : Int) < 128 := by omega
            by_cases hz : 0 < b
            · have gz : (0 : Int) < (b : Int) % 128 := by omega
              by_cases hn : acc + b * 268435456 ≤ 1099511627776
              · have hq : isNum ((acc : Int) + (b : Int) % 128 * 268435456) = true := by simp [isNum]; omega
                have HV : Hid (out = some (acc + b * 268435456, m)) := by
                  unfold Hid
                  rw [HO.out, if_pos hb1, if_pos (by simp; omega)]
                clear HO
                go_wp2_with (first
                  | (go_at_call 47; refine HT.out.mono ?_; rintro e1 w1 ⟨v1, rfl, hb1, hr1, F1⟩; obtain ⟨g, off, cap, rfl, hc⟩ := BL.one hb1 hr1.1; have HR1 := hide hr1; have HF1 := hide (HFF.out.trans F1 (fun _ _ e => e)); clear hb1 hr1 F1)
                  | (go_at_call 37; refine (HN.out _ _).mono ?_; rintro e2 w2 ⟨rfl, hw⟩; replace hw := hw.symm; subst hw)
                  | (go_at_call_of 46 (Value.bool true); refine (must_yes _).mono ?_; rintro e3 w3 ⟨rfl, hw⟩; replace hw := hw.symm; subst hw))
                go_ret
                rw [HV.out]
                have e : ((acc : Int) + (b : Int) % 128 * 268435456) = ((acc + b * 268435456 : Nat) : Int) := by omega
                exact ⟨HF1.out, congrArg (fun z : Int => Ending.returned (Value.int .i64 z)) e, HR1.out⟩
              · have hq : isNum ((acc : Int) + (b : Int) % 128 * 268435456) = false := by simp [isNum]; omega
                have HV : Hid (out = none) := by
                  unfold Hid
                  rw [HO.out, if_pos hb1, if_neg (by simp; omega)]
                clear HO
                go_wp2_with (first
                  | (go_at_call 47; refine HT.out.mono ?_; rintro e1 w1 ⟨v1, rfl, hb1, hr1, F1⟩; obtain ⟨g, off, cap, rfl, hc⟩ := BL.one hb1 hr1.1; have HR1 := hide hr1; have HF1 := hide (HFF.out.trans F1 (fun _ _ e => e)); clear hb1 hr1 F1)
                  | (go_at_call 37; refine (HN.out _ _).mono ?_; rintro e2 w2 ⟨rfl, hw⟩; replace hw := hw.symm; subst hw)
                  | (go_at_call_of 46 (Value.bool false); refine (must_no _).mono ?_; rintro e3 w3 ⟨rfl, hw⟩; replace hw := hw.symm; subst hw))
                rw [HV.out]
                exact ⟨rfl, HF1.out, rfl⟩
            · have gz : ¬ ((0 : Int) < (b : Int) % 128) := by omega
              have HV : Hid (out = none) := by
                unfold Hid
                rw [HO.out, if_pos hb1, if_neg (by simp; omega)]
              clear HO
              go_wp2_with (first
                | (go_at_call 47; refine HT.out.mono ?_; rintro e1 w1 ⟨v1, rfl, hb1, hr1, F1⟩; obtain ⟨g, off, cap, rfl, hc⟩ := BL.one hb1 hr1.1; have HR1 := hide hr1; have HF1 := hide (HFF.out.trans F1 (fun _ _ e => e)); clear hb1 hr1 F1)
                | (go_at_call_of 46 (Value.bool false); refine (must_no _).mono ?_; rintro e3 w3 ⟨rfl, hw⟩; replace hw := hw.symm; subst hw))
              rw [HV.out]
              exact ⟨rfl, HF1.out, rfl⟩
          · have gb : ¬ ((b : Int) < 128) := by omega
            have HV : Hid (out = rdG 1 5 (acc + b % 128 * 268435456) m) := by
              unfold Hid
              rw [HO.out, if_neg hb1]
            clear HO
            go_wp2_with (go_at_call 47; refine HT.out.mono ?_; rintro e1 w1 ⟨v1, rfl, hb1, hr1, F1⟩; obtain ⟨g, off, cap, rfl, hc⟩ := BL.one hb1 hr1.1; have HR1 := hide hr1; have HF1 := hide (HFF.out.trans F1 (fun _ _ e => e)); clear hb1 hr1 F1)
            refine ⟨⟨5, acc + b % 128 * 268435456, m, by decide, rfl, by go_num, by omega, HR1.out, HF1.out, HM8.out, HV.out⟩, by simp [intOf]⟩
        · have hpow : (128 : Nat) ^ 5 = 34359738368 := by decide
          rw [hpow] at hacc HO
          by_cases hb1 : b < 128
          · have gb : (b : Int) < 128 := by omega
            by_cases hz : 0 < b
            · have gz : (0 : Int) < (b : Int) % 128 := by omega
              by_cases hn : acc + b * 34359738368 ≤ 1099511627776
              · have hq : isNum ((acc : Int) + (b : Int) % 128 * 34359738368) = true := by simp [isNum]; omega
                have HV : Hid (out = some (acc + b * 34359738368, m)) := by
                  unfold Hid
                  rw [HO.out, if_pos hb1, if_pos (by simp; omega)]
                clear HO
                go_wp2_with (first
                  | (go_at_call 47; refine HT.out.mono ?_; rintro e1 w1 ⟨v1, rfl, hb1, hr1, F1⟩; obtain ⟨g, off, cap, rfl, hc⟩ := BL.one hb1 hr1.1; have HR1 := hide hr1; have HF1 := hide (HFF.out.trans F1 (fun _ _ e => e)); clear hb1 hr1 F1)
                  | (go_at_call 37; refine (HN.out _ _).mono ?_; rintro e2 w2 ⟨rfl, hw⟩; replace hw := hw.symm; subst hw)
                  | (go_at_call_of 46 (Value.bool true); refine (must_yes _).mono ?_; rintro e3 w3 ⟨rfl, hw⟩; replace hw := hw.symm; subst hw))
                go_ret
                rw [HV.out]
                have e : ((acc : Int) + (b : Int) % 128 * 34359738368) = ((acc + b * 34359738368 : Nat) : Int) := by omega
                exact ⟨HF1.out, congrArg (fun z : Int => Ending.returned (Value.int .i64 z)) e, HR1.out⟩
              · have hq : isNum ((acc : Int) + (b : Int) % 128 * 34359738368) = false := by simp [isNum]; omega
                have HV : Hid (out = none) := by
                  unfold Hid
                  rw [HO.out, if_pos hb1, if_neg (by simp; omega)]
                clear HO
                go_wp2_with (first
                  | (go_at_call 47; refine HT.out.mono ?_; rintro e1 w1 ⟨v1, rfl, hb1, hr1, F1⟩; obtain ⟨g, off, cap, rfl, hc⟩ := BL.one hb1 hr1.1; have HR1 := hide hr1; have HF1 := hide (HFF.out.trans F1 (fun _ _ e => e)); clear hb1 hr1 F1)
                  | (go_at_call 37; refine (HN.out _ _).mono ?_; rintro e2 w2 ⟨rfl, hw⟩; replace hw := hw.symm; subst hw)
                  | (go_at_call_of 46 (Value.bool false); refine (must_no _).mono ?_; rintro e3 w3 ⟨rfl, hw⟩; replace hw := hw.symm; subst hw))
                rw [HV.out]
                exact ⟨rfl, HF1.out, rfl⟩
            · have gz : ¬ ((0 : Int) < (b : Int) % 128) := by omega
              have HV : Hid (out = none) := by
                unfold Hid
                rw [HO.out, if_pos hb1, if_neg (by simp; omega)]
              clear HO
              go_wp2_with (first
                | (go_at_call 47; refine HT.out.mono ?_; rintro e1 w1 ⟨v1, rfl, hb1, hr1, F1⟩; obtain ⟨g, off, cap, rfl, hc⟩ := BL.one hb1 hr1.1; have HR1 := hide hr1; have HF1 := hide (HFF.out.trans F1 (fun _ _ e => e)); clear hb1 hr1 F1)
                | (go_at_call_of 46 (Value.bool false); refine (must_no _).mono ?_; rintro e3 w3 ⟨rfl, hw⟩; replace hw := hw.symm; subst hw))
              rw [HV.out]
              exact ⟨rfl, HF1.out, rfl⟩
          · have gb : ¬ ((b : Int) < 128) := by omega
            have HV : Hid (out = rdG 0 6 (acc + b % 128 * 34359738368) m) := by
              unfold Hid
              rw [HO.out, if_neg hb1]
            clear HO
            go_wp2_with (go_at_call 47; refine HT.out.mono ?_; rintro e1 w1 ⟨v1, rfl, hb1, hr1, F1⟩; obtain ⟨g, off, cap, rfl, hc⟩ := BL.one hb1 hr1.1; have HR1 := hide hr1; have HF1 := hide (HFF.out.trans F1 (fun _ _ e => e)); clear hb1 hr1 F1)
            refine ⟨⟨6, acc + b % 128 * 34359738368, m, by decide, rfl, by go_num, by omega, HR1.out, HF1.out, HM8.out, HV.out⟩, by simp [intOf]⟩
    · have e : i = 6 := by omega
      subst e
      have hiI : ¬ ((6 : Nat) : Int) < 6 := by decide
      rw [Nat.sub_self, rdG_last] at ho
      have HFF := hide hF
      have HO := hide ho
      clear hrs hF ho hacc HRS HOUT H8
      go_wp2
      rw [HO.out]
      exact ⟨rfl, HFF.out, rfl⟩

end Go.Proofs.Ytmgaofpjbeihdaa
