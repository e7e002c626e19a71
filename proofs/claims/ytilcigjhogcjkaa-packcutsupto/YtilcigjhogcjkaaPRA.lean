/-
  What is proved here: a reader of package pack: bytes that lie there, must, take; what is taken, or that it gives up. the reader's take (package pack). the reader's number (package pack): what it makes of bytes. the reader's signed, flag, count, limb, text, spend (package pack).
-/
import Derived.Test.YtilcigjhogcjkaaPKBulk
import Derived.WalkLawsBesides
import Derived.Test.YtilcigjhogcjkaaPKFit
import Derived.Test.YtilcigjhogcjkaaPKSame
namespace Go.Proofs.Ytilcigjhogcjkaa
open Go Go.RowKit

/-- What the reader gives up with. -/
def PAN : List PanicEntry := [{ v := .iface 9 (.string ⟨#[112, 97, 99, 107, 58, 32, 110, 111, 116, 32, 116, 104, 101, 32, 98, 121, 116, 101, 115, 32, 111, 102, 32, 97, 32, 112, 114, 111, 103, 114, 97, 109]⟩), recovered := false }]
/-- Bytes that lie there. -/
def BL (w : World) (v : Value) (l : List Nat) : Prop := ∃ ao cap, v = .slice ao l.length cap ∧ l.length ≤ cap ∧ cap ≤ 9223372036854775807 ∧ ((ao = none ∧ cap = 0) ∨ ∃ g off, ao = some ⟨g, off, none⟩ ∧ ∀ j (hj : j < l.length), w.cell? ⟨g, off + j, none⟩ = some (.int .u8 (l[j] : Int)))
theorem BL.up {w w' : World} {v : Value} {l : List Nat} (h : BL w v l) (u : Up w w') : BL w' v l := by
  obtain ⟨ao, cap, e, h1, h2, h3⟩ := h
  refine ⟨ao, cap, e, h1, h2, ?_⟩
  rcases h3 with h3 | ⟨g, off, ea, hc⟩
  · exact .inl h3
  · exact .inr ⟨g, off, ea, fun j hj => (u.cell (p := ⟨g, off + j, none⟩) (World.block_lt_of_cell? w _ (hc j hj))).trans (hc j hj)⟩
/-- A reader: what is left, how many parts. -/
def RdAt (w : World) (rb : Nat) (v : Value) (p : Nat) : Prop := w.heap[rb]? = some (.cells #[v, .int .i64 (p : Int)] 67 (0, 0))
theorem RdAt.lt {w : World} {rb p : Nat} {v : Value} (h : RdAt w rb v p) : rb < w.heap.size := (Array.getElem?_eq_some_iff.1 h).1
theorem RdAt.c0 {w : World} {rb p : Nat} {v : Value} (h : RdAt w rb v p) : w.cell? ⟨rb, 0, none⟩ = some v := by
  rw [cell_of_row w rb 0 _ _ _ h]
  rfl
theorem RdAt.c1 {w : World} {rb p : Nat} {v : Value} (h : RdAt w rb v p) : w.cell? ⟨rb, 1, none⟩ = some (.int .i64 (p : Int)) := by
  rw [cell_of_row w rb 1 _ _ _ h]
  rfl
theorem RdAt.fz {w : World} {rb p : Nat} {v : Value} (h : RdAt w rb v p) (i : Nat) : w.frozen? ⟨rb, i, none⟩ = false := frozen_of_row _ _ _ _ _ h
theorem RdAt.set0 {w : World} {rb p : Nat} {v : Value} (h : RdAt w rb v p) (u : Value) : RdAt (w.setCell ⟨rb, 0, none⟩ u) rb u p := (heap_setCell_same w rb 0 _ _ u h).trans rfl
theorem RdAt.set1 {w : World} {rb p : Nat} {v : Value} (h : RdAt w rb v p) (q : Nat) : RdAt (w.setCell ⟨rb, 1, none⟩ (.int .i64 (q : Int))) rb v q := (heap_setCell_same w rb 1 _ _ _ h).trans rfl
/-- A reader over bytes that lay there at w0. -/
def RS (w0 w : World) (rb : Nat) (l : List Nat) (p : Nat) : Prop := Up w0 w ∧ w0.heap.size ≤ rb ∧ ∃ v, BL w0 v l ∧ RdAt w rb v p
/-- What comes of reading: something, with what is left; or it gives up. -/
def RE (w0 w : World) (rb : Nat) (val : Value → World → Prop) (out : Option (List Nat × Nat)) (e : Ending) (w' : World) : Prop :=
  Up w0 w' ∧ w.heap.size ≤ w'.heap.size ∧ match out with
  | none => e = .panicked PAN
  | some (l', p') => ∃ v, e = .returned v ∧ val v w' ∧ RS w0 w' rb l' p'

theorem must_yes (w : World) : Calls Try.prog 46 #[.bool true] w fun e w' => e = .returned (.tuple #[]) ∧ w' = w := by
  go_enter Try.func46, Try.ntmps46
  go_wp2
  go_end0
  exact ⟨rfl, rfl⟩
theorem must_no (w : World) : Calls Try.prog 46 #[.bool false] w fun e w' => e = .panicked PAN ∧ w' = w := by
  go_enter Try.func46, Try.ntmps46
  go_wp2
  exact ⟨rfl, rfl, rfl⟩
theorem BL.take {w : World} {ao : Option Addr} {n cap : Nat} {l : List Nat} (h : BL w (.slice ao n cap) l) {k : Nat} (hk : k ≤ l.length) : BL w (.slice ao k cap) (l.take k) := by
  obtain ⟨ao', cap', e, h1, h2, h3⟩ := h
  cases e
  have hl : (l.take k).length = k := by rw [List.length_take]; omega
  refine ⟨ao, cap, by rw [hl], by omega, h2, ?_⟩
  rcases h3 with h3 | ⟨g, off, ea, hc⟩
  · exact .inl h3
  · refine .inr ⟨g, off, ea, fun j hj => ?_⟩
    rw [hc j (by omega), List.getElem_take]
theorem BL.drop {w : World} {g off n cap : Nat} {l : List Nat} (h : BL w (.slice (some ⟨g, off, none⟩) n cap) l) {k : Nat} (hk : k ≤ l.length) : BL w (.slice (some ⟨g, off + k, none⟩) (l.length - k) (cap - k)) (l.drop k) := by
  obtain ⟨ao', cap', e, h1, h2, h3⟩ := h
  cases e
  have hl : (l.drop k).length = l.length - k := List.length_drop
  refine ⟨_, _, by rw [hl], by omega, by omega, .inr ⟨g, off + k, rfl, fun j hj => ?_⟩⟩
  rcases h3 with ⟨e, -⟩ | ⟨g', off', ea, hc⟩
  · cases e
  · cases ea
    rw [List.getElem_drop, Nat.add_assoc]
    exact hc (k + j) (by omega)
theorem BL.end {w : World} {g off n cap : Nat} {l : List Nat} (h : BL w (.slice (some ⟨g, off, none⟩) n cap) l) {k : Nat} (hk : k = l.length) : BL w (.slice (some ⟨g, off, none⟩) (l.length - k) (cap - k)) (l.drop k) := by
  obtain ⟨ao', cap', e, h1, h2, h3⟩ := h
  cases e
  have hl : (l.drop k).length = l.length - k := List.length_drop
  refine ⟨_, _, by rw [hl], by omega, by omega, .inr ⟨g, off, rfl, fun j hj => ?_⟩⟩
  rw [hl] at hj
  omega

set_option maxRecDepth 20000 in
theorem rtake_no (w0 w : World) (rb p k : Nat) (l : List Nat) (h : RS w0 w rb l p) (hk : l.length < k) (_hk2 : k ≤ 9223372036854775807) :
    Calls Try.prog 47 #[.pointer (some ⟨rb, 0, none⟩), .int .i64 (k : Int)] w fun e w' => e = .panicked PAN ∧ w' = w := by
  obtain ⟨hU, hrb, v, hB, hR⟩ := h
  obtain ⟨ao, cap, rfl, -⟩ := hB
  have x0 := hR.c0
  have g1 : ¬ ((k : Int) ≤ (l.length : Int)) := by omega
  have HM := hide (fun (W : World) => must_no W)
  clear hR hU hk
  go_enter Try.func47, Try.ntmps47
  go_wp2_with (go_at_call 46; refine (HM.out _).mono ?_; rintro e1 w1 ⟨rfl, hw⟩; replace hw := hw.symm; subst hw)
  exact ⟨rfl, rfl, rfl⟩

theorem RS.set {w0 w : World} {rb p : Nat} {l l' : List Nat} {v' : Value} (h : RS w0 w rb l p) (hB : BL w0 v' l') : RS w0 (w.setCell ⟨rb, 0, none⟩ v') rb l' p := by
  obtain ⟨hU, hrb, v, -, hR⟩ := h
  exact ⟨⟨hU.os, hU.tape, hU.output, by simpa [World.setCell] using hU.size, fun k hk => (heap_setCell_other _ _ _ _ (by show k ≠ rb; omega)).trans (hU.block k hk)⟩, hrb, v', hB, hR.set0 v'⟩
/-- What is taken, and what is left. -/
def TE (w0 w : World) (rb p k : Nat) (l : List Nat) (e : Ending) (w' : World) : Prop := ∃ v1, e = .returned v1 ∧ BL w0 v1 (l.take k) ∧ RS w0 w' rb (l.drop k) p ∧ Fr (fun j => j = rb) w w'

set_option maxRecDepth 20000 in
theorem rtake_yes (w0 w : World) (rb p k : Nat) (l : List Nat) (h : RS w0 w rb l p) (hk : k ≤ l.length) :
    Calls Try.prog 47 #[.pointer (some ⟨rb, 0, none⟩), .int .i64 (k : Int)] w fun e w' => TE w0 w rb p k l e w' := by
  obtain ⟨hU, hrb, v, hB, hR⟩ := id h
  obtain ⟨ao, cap, rfl, hc1, hc2, hc3⟩ := id hB
  have x0 := hR.c0
  have x1 := hR.fz 0
  have g1 : (k : Int) ≤ (l.length : Int) := by omega
  have g2 : (l.length : Int) ≤ (cap : Int) := by omega
  have HM := hide (fun (W : World) => must_yes W)
  have HRS := hide h
  rcases hc3 with ⟨rfl, rfl⟩ | ⟨g, off, rfl, -⟩
  · have hl0 : l = [] := List.length_eq_zero_iff.1 (by omega)
    subst hl0
    have hk0 : k = 0 := by simpa using hk
    subst hk0
    clear hR hU hB h hk g1 g2 hc1 hc2
    go_enter Try.func47, Try.ntmps47
    go_wp2_with (go_at_call 46; refine (HM.out _).mono ?_; rintro e1 w1 ⟨rfl, hw⟩; replace hw := hw.symm; subst hw)
    go_ret
    exact ⟨_, rfl, ⟨none, 0, rfl, by simp, by simp, .inl ⟨rfl, rfl⟩⟩, HRS.out.set ⟨none, 0, rfl, by simp, by simp, .inl ⟨rfl, rfl⟩⟩, Fr.setCell (S := fun j => j = rb) (Fr.refl _ _) (fun _ => rfl) _ _⟩
  · have HT := hide (hB.take hk)
    by_cases hkc : k = cap
    · have HD := hide (hB.end (k := k) (by omega))
      subst hkc
      rw [Nat.sub_self] at HD
      clear hR hU hB h hk hc1 hc2
      go_enter Try.func47, Try.ntmps47
      go_wp2_with (go_at_call 46; refine (HM.out _).mono ?_; rintro e1 w1 ⟨rfl, hw⟩; replace hw := hw.symm; subst hw)
      go_ret
      exact ⟨_, rfl, HT.out, HRS.out.set HD.out, Fr.setCell (S := fun j => j = rb) (Fr.refl _ _) (fun _ => rfl) _ _⟩
    · have HD := hide (hB.drop hk)
      have g3 : (k : Int) < (cap : Int) := by omega
      clear hR hU hB h hk hc1 hc2
      go_enter Try.func47, Try.ntmps47
      go_wp2_with (go_at_call 46; refine (HM.out _).mono ?_; rintro e1 w1 ⟨rfl, hw⟩; replace hw := hw.symm; subst hw)
      go_ret
      exact ⟨_, rfl, HT.out, HRS.out.set HD.out, Fr.setCell (S := fun j => j = rb) (Fr.refl _ _) (fun _ => rfl) _ _⟩

/-- A number of bytes; behind i groups that say acc. -/
def rdG : Nat → Nat → Nat → List Nat → Option (Nat × List Nat)
  | 0, _, _, _ => none
  | _ + 1, _, _, [] => none
  | f + 1, i, acc, b :: l => if b < 128 then (if (0 < b ∨ i = 0) ∧ acc + b * 128 ^ i ≤ 1099511627776 then some (acc + b * 128 ^ i, l) else none) else rdG f (i + 1) (acc + b % 128 * 128 ^ i) l
def rdNum (l : List Nat) : Option (Nat × List Nat) := rdG 6 0 0 l
/-- What comes of a call of the reader's. -/
def RQ {α : Type} (w : World) (rb : Nat) (ok : α → Ending → World → Prop) (out : Option α) (e : Ending) (w' : World) : Prop := Fr (fun j => j = rb) w w' ∧ match out with
  | none => e = .panicked PAN
  | some a => ok a e w'
def okN (w0 : World) (rb p : Nat) (x : Nat × List Nat) (e : Ending) (w' : World) : Prop := e = .returned (.int .i64 (x.1 : Int)) ∧ RS w0 w' rb x.2 p
theorem BL.one {w W : World} {v : Value} {b : Nat} {l : List Nat} (h : BL w v ((b :: l).take 1)) (u : Up w W) : ∃ g off cap, v = .slice (some ⟨g, off, none⟩) 1 cap ∧ W.cell? ⟨g, off, none⟩ = some (.int .u8 (b : Int)) := by
  obtain ⟨ao, cap, e, h1, h2, h3⟩ := h.up u
  rcases h3 with ⟨rfl, rfl⟩ | ⟨g, off, rfl, hc⟩
  · simp at h1
  · exact ⟨g, off, cap, by simpa using e, by simpa using hc 0 (by simp)⟩

theorem rdG_last (i acc : Nat) (l : List Nat) : rdG 0 i acc l = none := rfl
theorem rdG_nil (f i acc : Nat) : rdG f i acc [] = none := by cases f <;> rfl
theorem rdG_cons (f i acc b : Nat) (l : List Nat) : rdG (f + 1) i acc (b :: l) = if b < 128 then (if (0 < b ∨ i = 0) ∧ acc + b * 128 ^ i ≤ 1099511627776 then some (acc + b * 128 ^ i, l) else none) else rdG f (i + 1) (acc + b % 128 * 128 ^ i) l := rfl
theorem RS.mono {w0 w w' : World} {rb p : Nat} {l : List Nat} (h : RS w0 w rb l p) (u : Up w w') : RS w0 w' rb l p := by
  obtain ⟨hU, hrb, v, hB, hR⟩ := h
  exact ⟨hU.tr u, hrb, v, hB, (u.block rb hR.lt).trans hR⟩

set_option maxRecDepth 20000 in
set_option maxHeartbeats 2000000 in
theorem rdnum_any (w0 w : World) (rb p : Nat) (l : List Nat) (h : RS w0 w rb l p) (h8 : By8 l) :
    Calls Try.prog 60 #[.pointer (some ⟨rb, 0, none⟩)] w fun e w' => RQ w rb (okN w0 rb p) (rdNum l) e w' := by
  obtain ⟨out, hout⟩ : ∃ o, o = rdNum l := ⟨_, rfl⟩
  rw [← hout]
  have HRS := hide h
  have HOUT := hide hout
  have H8 := hide h8
  have HN := hide (fun (v : Int) (W : World) => isNumber_any v W)
  clear h hout h8
  go_enter Try.func60, Try.ntmps60
  go_wp2
  go_loopw [3, 8] (fun n c wr => ∃ (i acc : Nat) (m : List Nat), i ≤ 6 ∧ c = .int .i64 (i : Int) ∧ n = .int .i64 (acc : Int) ∧ acc < 128 ^ i ∧ RS w0 wr rb m p ∧ Fr (fun j => j = rb) w wr ∧ By8 m ∧ out = rdG (6 - i) i acc m) (fun _ c _ => 6 - (intOf c).toNat)
  case atStart => exact ⟨0, 0, l, by decide, rfl, rfl, by decide, HRS.out, Fr.refl _ _, H8.out, HOUT.out⟩
  case round =>
    obtain ⟨i, acc, m, hi, rfl, rfl, hacc, hrs, hF, hm8, ho⟩ := hrel
    by_cases hi6 : i < 6
    · match m, hrs, hm8, ho with
      | [], hrs, hm8, ho =>
        rw [rdG_nil] at ho
        have HT := hide (rtake_no w0 wr rb p 1 [] hrs (by decide) (by decide))
        have hiI : (i : Int) < 6 := by omega
        have HFF := hide hF
        have HO := hide ho
        clear hrs hF ho hacc HRS HOUT H8
        go_wp2_with (go_at_call 47; refine HT.out.mono ?_; rintro e1 w1 ⟨rfl, hw⟩; replace hw := hw.symm; subst hw)
        rw [HO.out]
        exact ⟨rfl, HFF.out, rfl⟩
      | b :: m, hrs, hm8, ho =>
        have hb : b < 256 := hm8 b (List.mem_cons_self ..)
        have hm8' : By8 m := fun x hx => hm8 x (List.mem_cons_of_mem _ hx)
        have HT := hide (rtake_yes w0 wr rb p 1 (b :: m) hrs (by simp))
        have hiI : (i : Int) < 6 := by omega
        have HFF := hide hF
        have HM8 := hide hm8'
        rw [show 6 - i = (5 - i) + 1 by omega, rdG_cons] at ho
        have HO := hide ho
        clear hrs hF ho hm8 hm8' HRS HOUT H8
        have hi5 : i = 0 ∨ i = 1 ∨ i = 2 ∨ i = 3 ∨ i = 4 ∨ i = 5 := by omega
        rcases hi5 with rfl | rfl | rfl | rfl | rfl | rfl
        · have hpow : (128 : Nat) ^ 0 = 1 := by decide
          rw [hpow] at hacc HO
          have ha0 : acc = 0 := by omega
          subst ha0
          by_cases hb1 : b < 128
          · have gb : (b : Int) < 128 := by omega
            by_cases hz : 0 < b
            · have gz : (0 : Int) < (b : Int) % 128 := by omega
              by_cases hn : b ≤ 1099511627776
              · have hq : isNum ((b : Int) % 128) = true := by simp [isNum]; omega
                have HV : Hid (out = some (b, m)) := by
                  unfold Hid
                  rw [HO.out, if_pos hb1, if_pos (by simp; omega)]
                  simp
                clear HO
                go_wp2_with (first
                  | (go_at_call 47; refine HT.out.mono ?_; rintro e1 w1 ⟨v1, rfl, hb1, hr1, F1⟩; obtain ⟨g, off, cap, rfl, hc⟩ := BL.one hb1 hr1.1; have HR1 := hide hr1; have HF1 := hide (HFF.out.trans F1 (fun _ _ e => e)); clear hb1 hr1 F1)
                  | (go_at_call 37; refine (HN.out _ _).mono ?_; rintro e2 w2 ⟨rfl, hw⟩; replace hw := hw.symm; subst hw)
                  | (go_at_call_of 46 (Value.bool true); refine (must_yes _).mono ?_; rintro e3 w3 ⟨rfl, hw⟩; replace hw := hw.symm; subst hw))
                go_ret
                rw [HV.out]
                have e : ((b : Int) % 128) = ((b : Nat) : Int) := by omega
                exact ⟨HF1.out, congrArg (fun z : Int => Ending.returned (Value.int .i64 z)) e, HR1.out⟩
              · have hq : isNum ((b : Int) % 128) = false := by simp [isNum]; omega
                have HV : Hid (out = none) := by
                  unfold Hid
                  rw [HO.out, if_pos hb1, if_neg (by simp; omega)]
                clear HO
                go_wp2_with (first
                  | (go_at_call 47; refine HT.out.mono ?_; rintro e1 w1 ⟨v1, rfl, hb1, hr1, F1⟩; obtain ⟨g, off, cap, rfl, hc⟩ := BL.one hb1 hr1.1; have HR1 := hide hr1; have HF1 := hide (HFF.out.trans F1 (fun _ _ e => e)); clear hb1 hr1 F1)
                  | (go_at_call 37; refine (HN.out _ _).mono ?_; rintro e2 w2 ⟨rfl, hw⟩; replace hw := hw.symm; subst hw)
                  | (go_at_call_of 46 (Value.bool false); refine (must_no _).mono ?_; rintro e3 w3 ⟨rfl, hw⟩; replace hw := hw.symm; subst hw))
                rw [HV.out]
                exact ⟨rfl, HF1.out, rfl⟩
            · have gz : ¬ ((0 : Int) < (b : Int) % 128) := by omega
              by_cases hn : b ≤ 1099511627776
              · have hq : isNum ((b : Int) % 128) = true := by simp [isNum]; omega
                have HV : Hid (out = some (b, m)) := by
                  unfold Hid
                  rw [HO.out, if_pos hb1, if_pos (by simp; omega)]
                  simp
                clear HO
                go_wp2_with (first
                  | (go_at_call 47; refine HT.out.mono ?_; rintro e1 w1 ⟨v1, rfl, hb1, hr1, F1⟩; obtain ⟨g, off, cap, rfl, hc⟩ := BL.one hb1 hr1.1; have HR1 := hide hr1; have HF1 := hide (HFF.out.trans F1 (fun _ _ e => e)); clear hb1 hr1 F1)
                  | (go_at_call 37; refine (HN.out _ _).mono ?_; rintro e2 w2 ⟨rfl, hw⟩; replace hw := hw.symm; subst hw)
                  | (go_at_call_of 46 (Value.bool true); refine (must_yes _).mono ?_; rintro e3 w3 ⟨rfl, hw⟩; replace hw := hw.symm; subst hw))
                go_ret
                rw [HV.out]
                have e : ((b : Int) % 128) = ((b : Nat) : Int) := by omega
                exact ⟨HF1.out, congrArg (fun z : Int => Ending.returned (Value.int .i64 z)) e, HR1.out⟩
              · have hq : isNum ((b : Int) % 128) = false := by simp [isNum]; omega
                have HV : Hid (out = none) := by
                  unfold Hid
                  rw [HO.out, if_pos hb1, if_neg (by simp; omega)]
                clear HO
                go_wp2_with (first
                  | (go_at_call 47; refine HT.out.mono ?_; rintro e1 w1 ⟨v1, rfl, hb1, hr1, F1⟩; obtain ⟨g, off, cap, rfl, hc⟩ := BL.one hb1 hr1.1; have HR1 := hide hr1; have HF1 := hide (HFF.out.trans F1 (fun _ _ e => e)); clear hb1 hr1 F1)
                  | (go_at_call 37; refine (HN.out _ _).mono ?_; rintro e2 w2 ⟨rfl, hw⟩; replace hw := hw.symm; subst hw)
                  | (go_at_call_of 46 (Value.bool false); refine (must_no _).mono ?_; rintro e3 w3 ⟨rfl, hw⟩; replace hw := hw.symm; subst hw))
                rw [HV.out]
                exact ⟨rfl, HF1.out, rfl⟩
          · have gb : ¬ ((b : Int) < 128) := by omega
            have HV : Hid (out = rdG 5 1 (b % 128) m) := by
              unfold Hid
              rw [HO.out, if_neg hb1]; simp
            clear HO
            go_wp2_with (go_at_call 47; refine HT.out.mono ?_; rintro e1 w1 ⟨v1, rfl, hb1, hr1, F1⟩; obtain ⟨g, off, cap, rfl, hc⟩ := BL.one hb1 hr1.1; have HR1 := hide hr1; have HF1 := hide (HFF.out.trans F1 (fun _ _ e => e)); clear hb1 hr1 F1)
            refine ⟨⟨1, b % 128, m, by decide, rfl, by go_num, by omega, HR1.out, HF1.out, HM8.out, HV.out⟩, by simp [intOf]⟩
        · have hpow : (128 : Nat) ^ 1 = 128 := by decide
          rw [hpow] at hacc HO
          by_cases hb1 : b < 128
          · have gb : (b : Int) < 128 := by omega
            by_cases hz : 0 < b
            · have gz : (0 : Int) < (b : Int) % 128 := by omega
              by_cases hn : acc + b * 128 ≤ 1099511627776
              · have hq : isNum ((acc : Int) + (b : Int) % 128 * 128) = true := by simp [isNum]; omega
                have HV : Hid (out = some (acc + b * 128, m)) := by
                  unfold Hid
                  rw [HO.out, if_pos hb1, if_pos (by simp; omega)]
                clear HO
                go_wp2_with (first
                  | (go_at_call 47; refine HT.out.mono ?_; rintro e1 w1 ⟨v1, rfl, hb1, hr1, F1⟩; obtain ⟨g, off, cap, rfl, hc⟩ := BL.one hb1 hr1.1; have HR1 := hide hr1; have HF1 := hide (HFF.out.trans F1 (fun _ _ e => e)); clear hb1 hr1 F1)
                  | (go_at_call 37; refine (HN.out _ _).mono ?_; rintro e2 w2 ⟨rfl, hw⟩; replace hw := hw.symm; subst hw)
                  | (go_at_call_of 46 (Value.bool true); refine (must_yes _).mono ?_; rintro e3 w3 ⟨rfl, hw⟩; replace hw := hw.symm; subst hw))
                go_ret
                rw [HV.out]
                have e : ((acc : Int) + (b : Int) % 128 * 128) = ((acc + b * 128 : Nat) : Int) := by omega
                exact ⟨HF1.out, congrArg (fun z : Int => Ending.returned (Value.int .i64 z)) e, HR1.out⟩
              · have hq : isNum ((acc : Int) + (b : Int) % 128 * 128) = false := by simp [isNum]; omega
                have HV : Hid (out = none) := by
                  unfold Hid
                  rw [HO.out, if_pos hb1, if_neg (by simp; omega)]
                clear HO
                go_wp2_with (first
                  | (go_at_call 47; refine HT.out.mono ?_; rintro e1 w1 ⟨v1, rfl, hb1, hr1, F1⟩; obtain ⟨g, off, cap, rfl, hc⟩ := BL.one hb1 hr1.1; have HR1 := hide hr1; have HF1 := hide (HFF.out.trans F1 (fun _ _ e => e)); clear hb1 hr1 F1)
                  | (go_at_call 37; refine (HN.out _ _).mono ?_; rintro e2 w2 ⟨rfl, hw⟩; replace hw := hw.symm; subst hw)
                  | (go_at_call_of 46 (Value.bool false); refine (must_no _).mono ?_; rintro e3 w3 ⟨rfl, hw⟩; replace hw := hw.symm; subst hw))
                rw [HV.out]
                exact ⟨rfl, HF1.out, rfl⟩
            · have gz : ¬ ((0 : Int) < (b : Int) % 128) := by omega
              have HV : Hid (out = none) := by
                unfold Hid
                rw [HO.out, if_pos hb1, if_neg (by simp; omega)]
              clear HO
              go_wp2_with (first
                | (go_at_call 47; refine HT.out.mono ?_; rintro e1 w1 ⟨v1, rfl, hb1, hr1, F1⟩; obtain ⟨g, off, cap, rfl, hc⟩ := BL.one hb1 hr1.1; have HR1 := hide hr1; have HF1 := hide (HFF.out.trans F1 (fun _ _ e => e)); clear hb1 hr1 F1)
                | (go_at_call_of 46 (Value.bool false); refine (must_no _).mono ?_; rintro e3 w3 ⟨rfl, hw⟩; replace hw := hw.symm; subst hw))
              rw [HV.out]
              exact ⟨rfl, HF1.out, rfl⟩
          · have gb : ¬ ((b : Int) < 128) := by omega
            have HV : Hid (out = rdG 4 2 (acc + b % 128 * 128) m) := by
              unfold Hid
              rw [HO.out, if_neg hb1]
            clear HO
            go_wp2_with (go_at_call 47; refine HT.out.mono ?_; rintro e1 w1 ⟨v1, rfl, hb1, hr1, F1⟩; obtain ⟨g, off, cap, rfl, hc⟩ := BL.one hb1 hr1.1; have HR1 := hide hr1; have HF1 := hide (HFF.out.trans F1 (fun _ _ e => e)); clear hb1 hr1 F1)
            refine ⟨⟨2, acc + b % 128 * 128, m, by decide, rfl, by go_num, by omega, HR1.out, HF1.out, HM8.out, HV.out⟩, by simp [intOf]⟩
        · have hpow : (128 : Nat) ^ 2 = 16384 := by decide
          rw [hpow] at hacc HO
          by_cases hb1 : b < 128
          · have gb : (b : Int) < 128 := by omega
            by_cases hz : 0 < b
            · have gz : (0 : Int) < (b : Int) % 128 := by omega
              by_cases hn : acc + b * 16384 ≤ 1099511627776
              · have hq : isNum ((acc : Int) + (b : Int) % 128 * 16384) = true := by simp [isNum]; omega
                have HV : Hid (out = some (acc + b * 16384, m)) := by
                  unfold Hid
                  rw [HO.out, if_pos hb1, if_pos (by simp; omega)]
                clear HO
                go_wp2_with (first
                  | (go_at_call 47; refine HT.out.mono ?_; rintro e1 w1 ⟨v1, rfl, hb1, hr1, F1⟩; obtain ⟨g, off, cap, rfl, hc⟩ := BL.one hb1 hr1.1; have HR1 := hide hr1; have HF1 := hide (HFF.out.trans F1 (fun _ _ e => e)); clear hb1 hr1 F1)
                  | (go_at_call 37; refine (HN.out _ _).mono ?_; rintro e2 w2 ⟨rfl, hw⟩; replace hw := hw.symm; subst hw)
                  | (go_at_call_of 46 (Value.bool true); refine (must_yes _).mono ?_; rintro e3 w3 ⟨rfl, hw⟩; replace hw := hw.symm; subst hw))
                go_ret
                rw [HV.out]
                have e : ((acc : Int) + (b : Int) % 128 * 16384) = ((acc + b * 16384 : Nat) : Int) := by omega
                exact ⟨HF1.out, congrArg (fun z : Int => Ending.returned (Value.int .i64 z)) e, HR1.out⟩
              · have hq : isNum ((acc : Int) + (b : Int) % 128 * 16384) = false := by simp [isNum]; omega
                have HV : Hid (out = none) := by
                  unfold Hid
                  rw [HO.out, if_pos hb1, if_neg (by simp; omega)]
                clear HO
                go_wp2_with (first
                  | (go_at_call 47; refine HT.out.mono ?_; rintro e1 w1 ⟨v1, rfl, hb1, hr1, F1⟩; obtain ⟨g, off, cap, rfl, hc⟩ := BL.one hb1 hr1.1; have HR1 := hide hr1; have HF1 := hide (HFF.out.trans F1 (fun _ _ e => e)); clear hb1 hr1 F1)
                  | (go_at_call 37; refine (HN.out _ _).mono ?_; rintro e2 w2 ⟨rfl, hw⟩; replace hw := hw.symm; subst hw)
                  | (go_at_call_of 46 (Value.bool false); refine (must_no _).mono ?_; rintro e3 w3 ⟨rfl, hw⟩; replace hw := hw.symm; subst hw))
                rw [HV.out]
                exact ⟨rfl, HF1.out, rfl⟩
            · have gz : ¬ ((0 : Int) < (b : Int) % 128) := by omega
              have HV : Hid (out = none) := by
                unfold Hid
                rw [HO.out, if_pos hb1, if_neg (by simp; omega)]
              clear HO
              go_wp2_with (first
                | (go_at_call 47; refine HT.out.mono ?_; rintro e1 w1 ⟨v1, rfl, hb1, hr1, F1⟩; obtain ⟨g, off, cap, rfl, hc⟩ := BL.one hb1 hr1.1; have HR1 := hide hr1; have HF1 := hide (HFF.out.trans F1 (fun _ _ e => e)); clear hb1 hr1 F1)
                | (go_at_call_of 46 (Value.bool false); refine (must_no _).mono ?_; rintro e3 w3 ⟨rfl, hw⟩; replace hw := hw.symm; subst hw))
              rw [HV.out]
              exact ⟨rfl, HF1.out, rfl⟩
          · have gb : ¬ ((b : Int) < 128) := by omega
            have HV : Hid (out = rdG 3 3 (acc + b % 128 * 16384) m) := by
              unfold Hid
              rw [HO.out, if_neg hb1]
            clear HO
            go_wp2_with (go_at_call 47; refine HT.out.mono ?_; rintro e1 w1 ⟨v1, rfl, hb1, hr1, F1⟩; obtain ⟨g, off, cap, rfl, hc⟩ := BL.one hb1 hr1.1; have HR1 := hide hr1; have HF1 := hide (HFF.out.trans F1 (fun _ _ e => e)); clear hb1 hr1 F1)
            refine ⟨⟨3, acc + b % 128 * 16384, m, by decide, rfl, by go_num, by omega, HR1.out, HF1.out, HM8.out, HV.out⟩, by simp [intOf]⟩
        · have hpow : (128 : Nat) ^ 3 = 2097152 := by decide
          rw [hpow] at hacc HO
          by_cases hb1 : b < 128
          · have gb : (b : Int) < 128 := by omega
            by_cases hz : 0 < b
            · have gz : (0 : Int) < (b : Int) % 128 := by omega
              by_cases hn : acc + b * 2097152 ≤ 1099511627776
              · have hq : isNum ((acc : Int) + (b : Int) % 128 * 2097152) = true := by simp [isNum]; omega
                have HV : Hid (out = some (acc + b * 2097152, m)) := by
                  unfold Hid
                  rw [HO.out, if_pos hb1, if_pos (by simp; omega)]
                clear HO
                go_wp2_with (first
                  | (go_at_call 47; refine HT.out.mono ?_; rintro e1 w1 ⟨v1, rfl, hb1, hr1, F1⟩; obtain ⟨g, off, cap, rfl, hc⟩ := BL.one hb1 hr1.1; have HR1 := hide hr1; have HF1 := hide (HFF.out.trans F1 (fun _ _ e => e)); clear hb1 hr1 F1)
                  | (go_at_call 37; refine (HN.out _ _).mono ?_; rintro e2 w2 ⟨rfl, hw⟩; replace hw := hw.symm; subst hw)
                  | (go_at_call_of 46 (Value.bool true); refine (must_yes _).mono ?_; rintro e3 w3 ⟨rfl, hw⟩; replace hw := hw.symm; subst hw))
                go_ret
                rw [HV.out]
                have e : ((acc : Int) + (b : Int) % 128 * 2097152) = ((acc + b * 2097152 : Nat) : Int) := by omega
                exact ⟨HF1.out, congrArg (fun z : Int => Ending.returned (Value.int .i64 z)) e, HR1.out⟩
              · have hq : isNum ((acc : Int) + (b : Int) % 128 * 2097152) = false := by simp [isNum]; omega
                have HV : Hid (out = none) := by
                  unfold Hid
                  rw [HO.out, if_pos hb1, if_neg (by simp; omega)]
                clear HO
                go_wp2_with (first
                  | (go_at_call 47; refine HT.out.mono ?_; rintro e1 w1 ⟨v1, rfl, hb1, hr1, F1⟩; obtain ⟨g, off, cap, rfl, hc⟩ := BL.one hb1 hr1.1; have HR1 := hide hr1; have HF1 := hide (HFF.out.trans F1 (fun _ _ e => e)); clear hb1 hr1 F1)
                  | (go_at_call 37; refine (HN.out _ _).mono ?_; rintro e2 w2 ⟨rfl, hw⟩; replace hw := hw.symm; subst hw)
                  | (go_at_call_of 46 (Value.bool false); refine (must_no _).mono ?_; rintro e3 w3 ⟨rfl, hw⟩; replace hw := hw.symm; subst hw))
                rw [HV.out]
                exact ⟨rfl, HF1.out, rfl⟩
            · have gz : ¬ ((0 : Int) < (b : Int) % 128) := by omega
              have HV : Hid (out = none) := by
                unfold Hid
                rw [HO.out, if_pos hb1, if_neg (by simp; omega)]
              clear HO
              go_wp2_with (first
                | (go_at_call 47; refine HT.out.mono ?_; rintro e1 w1 ⟨v1, rfl, hb1, hr1, F1⟩; obtain ⟨g, off, cap, rfl, hc⟩ := BL.one hb1 hr1.1; have HR1 := hide hr1; have HF1 := hide (HFF.out.trans F1 (fun _ _ e => e)); clear hb1 hr1 F1)
                | (go_at_call_of 46 (Value.bool false); refine (must_no _).mono ?_; rintro e3 w3 ⟨rfl, hw⟩; replace hw := hw.symm; subst hw))
              rw [HV.out]
              exact ⟨rfl, HF1.out, rfl⟩
          · have gb : ¬ ((b : Int) < 128) := by omega
            have HV : Hid (out = rdG 2 4 (acc + b % 128 * 2097152) m) := by
              unfold Hid
              rw [HO.out, if_neg hb1]
            clear HO
            go_wp2_with (go_at_call 47; refine HT.out.mono ?_; rintro e1 w1 ⟨v1, rfl, hb1, hr1, F1⟩; obtain ⟨g, off, cap, rfl, hc⟩ := BL.one hb1 hr1.1; have HR1 := hide hr1; have HF1 := hide (HFF.out.trans F1 (fun _ _ e => e)); clear hb1 hr1 F1)
            refine ⟨⟨4, acc + b % 128 * 2097152, m, by decide, rfl, by go_num, by omega, HR1.out, HF1.out, HM8.out, HV.out⟩, by simp [intOf]⟩
        · have hpow : (128 : Nat) ^ 4 = 268435456 := by decide
          rw [hpow] at hacc HO
          by_cases hb1 : b < 128
          · have gb : (b : Int) < 128 := by omega
            by_cases hz : 0 < b
            · have gz : (0 : Int) < (b : Int) % 128 := by omega
              by_cases hn : acc + b * 268435456 ≤ 1099511627776
              · have hq : isNum ((acc : Int) + (b : Int) % 128 * 268435456) = true := by simp [isNum]; omega
                have HV : Hid (out = some (acc + b * 268435456, m)) := by
                  unfold Hid
                  rw [HO.out, if_pos hb1, if_pos (by simp; omega)]
                clear HO
                go_wp2_with (first
                  | (go_at_call 47; refine HT.out.mono ?_; rintro e1 w1 ⟨v1, rfl, hb1, hr1, F1⟩; obtain ⟨g, off, cap, rfl, hc⟩ := BL.one hb1 hr1.1; have HR1 := hide hr1; have HF1 := hide (HFF.out.trans F1 (fun _ _ e => e)); clear hb1 hr1 F1)
                  | (go_at_call 37; refine (HN.out _ _).mono ?_; rintro e2 w2 ⟨rfl, hw⟩; replace hw := hw.symm; subst hw)
                  | (go_at_call_of 46 (Value.bool true); refine (must_yes _).mono ?_; rintro e3 w3 ⟨rfl, hw⟩; replace hw := hw.symm; subst hw))
                go_ret
                rw [HV.out]
                have e : ((acc : Int) + (b : Int) % 128 * 268435456) = ((acc + b * 268435456 : Nat) : Int) := by omega
                exact ⟨HF1.out, congrArg (fun z : Int => Ending.returned (Value.int .i64 z)) e, HR1.out⟩
              · have hq : isNum ((acc : Int) + (b : Int) % 128 * 268435456) = false := by simp [isNum]; omega
                have HV : Hid (out = none) := by
                  unfold Hid
                  rw [HO.out, if_pos hb1, if_neg (by simp; omega)]
                clear HO
                go_wp2_with (first
                  | (go_at_call 47; refine HT.out.mono ?_; rintro e1 w1 ⟨v1, rfl, hb1, hr1, F1⟩; obtain ⟨g, off, cap, rfl, hc⟩ := BL.one hb1 hr1.1; have HR1 := hide hr1; have HF1 := hide (HFF.out.trans F1 (fun _ _ e => e)); clear hb1 hr1 F1)
                  | (go_at_call 37; refine (HN.out _ _).mono ?_; rintro e2 w2 ⟨rfl, hw⟩; replace hw := hw.symm; subst hw)
                  | (go_at_call_of 46 (Value.bool false); refine (must_no _).mono ?_; rintro e3 w3 ⟨rfl, hw⟩; replace hw := hw.symm; subst hw))
                rw [HV.out]
                exact ⟨rfl, HF1.out, rfl⟩
            · have gz : ¬ ((0 : Int) < (b : Int) % 128) := by omega
              have HV : Hid (out = none) := by
                unfold Hid
                rw [HO.out, if_pos hb1, if_neg (by simp; omega)]
              clear HO
              go_wp2_with (first
                | (go_at_call 47; refine HT.out.mono ?_; rintro e1 w1 ⟨v1, rfl, hb1, hr1, F1⟩; obtain ⟨g, off, cap, rfl, hc⟩ := BL.one hb1 hr1.1; have HR1 := hide hr1; have HF1 := hide (HFF.out.trans F1 (fun _ _ e => e)); clear hb1 hr1 F1)
                | (go_at_call_of 46 (Value.bool false); refine (must_no _).mono ?_; rintro e3 w3 ⟨rfl, hw⟩; replace hw := hw.symm; subst hw))
              rw [HV.out]
              exact ⟨rfl, HF1.out, rfl⟩
          · have gb : ¬ ((b : Int) < 128) := by omega
            have HV : Hid (out = rdG 1 5 (acc + b % 128 * 268435456) m) := by
              unfold Hid
              rw [HO.out, if_neg hb1]
            clear HO
            go_wp2_with (go_at_call 47; refine HT.out.mono ?_; rintro e1 w1 ⟨v1, rfl, hb1, hr1, F1⟩; obtain ⟨g, off, cap, rfl, hc⟩ := BL.one hb1 hr1.1; have HR1 := hide hr1; have HF1 := hide (HFF.out.trans F1 (fun _ _ e => e)); clear hb1 hr1 F1)
            refine ⟨⟨5, acc + b % 128 * 268435456, m, by decide, rfl, by go_num, by omega, HR1.out, HF1.out, HM8.out, HV.out⟩, by simp [intOf]⟩
        · have hpow : (128 : Nat) ^ 5 = 34359738368 := by decide
          rw [hpow] at hacc HO
          by_cases hb1 : b < 128
          · have gb : (b : Int) < 128 := by omega
            by_cases hz : 0 < b
            · have gz : (0 : Int) < (b : Int) % 128 := by omega
              by_cases hn : acc + b * 34359738368 ≤ 1099511627776
              · have hq : isNum ((acc : Int) + (b : Int) % 128 * 34359738368) = true := by simp [isNum]; omega
                have HV : Hid (out = some (acc + b * 34359738368, m)) := by
                  unfold Hid
                  rw [HO.out, if_pos hb1, if_pos (by simp; omega)]
                clear HO
                go_wp2_with (first
                  | (go_at_call 47; refine HT.out.mono ?_; rintro e1 w1 ⟨v1, rfl, hb1, hr1, F1⟩; obtain ⟨g, off, cap, rfl, hc⟩ := BL.one hb1 hr1.1; have HR1 := hide hr1; have HF1 := hide (HFF.out.trans F1 (fun _ _ e => e)); clear hb1 hr1 F1)
                  | (go_at_call 37; refine (HN.out _ _).mono ?_; rintro e2 w2 ⟨rfl, hw⟩; replace hw := hw.symm; subst hw)
                  | (go_at_call_of 46 (Value.bool true); refine (must_yes _).mono ?_; rintro e3 w3 ⟨rfl, hw⟩; replace hw := hw.symm; subst hw))
                go_ret
                rw [HV.out]
                have e : ((acc : Int) + (b : Int) % 128 * 34359738368) = ((acc + b * 34359738368 : Nat) : Int) := by omega
                exact ⟨HF1.out, congrArg (fun z : Int => Ending.returned (Value.int .i64 z)) e, HR1.out⟩
              · have hq : isNum ((acc : Int) + (b : Int) % 128 * 34359738368) = false := by simp [isNum]; omega
                have HV : Hid (out = none) := by
                  unfold Hid
                  rw [HO.out, if_pos hb1, if_neg (by simp; omega)]
                clear HO
                go_wp2_with (first
                  | (go_at_call 47; refine HT.out.mono ?_; rintro e1 w1 ⟨v1, rfl, hb1, hr1, F1⟩; obtain ⟨g, off, cap, rfl, hc⟩ := BL.one hb1 hr1.1; have HR1 := hide hr1; have HF1 := hide (HFF.out.trans F1 (fun _ _ e => e)); clear hb1 hr1 F1)
                  | (go_at_call 37; refine (HN.out _ _).mono ?_; rintro e2 w2 ⟨rfl, hw⟩; replace hw := hw.symm; subst hw)
                  | (go_at_call_of 46 (Value.bool false); refine (must_no _).mono ?_; rintro e3 w3 ⟨rfl, hw⟩; replace hw := hw.symm; subst hw))
                rw [HV.out]
                exact ⟨rfl, HF1.out, rfl⟩
            · have gz : ¬ ((0 : Int) < (b : Int) % 128) := by omega
              have HV : Hid (out = none) := by
                unfold Hid
                rw [HO.out, if_pos hb1, if_neg (by simp; omega)]
              clear HO
              go_wp2_with (first
                | (go_at_call 47; refine HT.out.mono ?_; rintro e1 w1 ⟨v1, rfl, hb1, hr1, F1⟩; obtain ⟨g, off, cap, rfl, hc⟩ := BL.one hb1 hr1.1; have HR1 := hide hr1; have HF1 := hide (HFF.out.trans F1 (fun _ _ e => e)); clear hb1 hr1 F1)
                | (go_at_call_of 46 (Value.bool false); refine (must_no _).mono ?_; rintro e3 w3 ⟨rfl, hw⟩; replace hw := hw.symm; subst hw))
              rw [HV.out]
              exact ⟨rfl, HF1.out, rfl⟩
          · have gb : ¬ ((b : Int) < 128) := by omega
            have HV : Hid (out = rdG 0 6 (acc + b % 128 * 34359738368) m) := by
              unfold Hid
              rw [HO.out, if_neg hb1]
            clear HO
            go_wp2_with (go_at_call 47; refine HT.out.mono ?_; rintro e1 w1 ⟨v1, rfl, hb1, hr1, F1⟩; obtain ⟨g, off, cap, rfl, hc⟩ := BL.one hb1 hr1.1; have HR1 := hide hr1; have HF1 := hide (HFF.out.trans F1 (fun _ _ e => e)); clear hb1 hr1 F1)
            refine ⟨⟨6, acc + b % 128 * 34359738368, m, by decide, rfl, by go_num, by omega, HR1.out, HF1.out, HM8.out, HV.out⟩, by simp [intOf]⟩
    · have e : i = 6 := by omega
      subst e
      have hiI : ¬ ((6 : Nat) : Int) < 6 := by decide
      rw [Nat.sub_self, rdG_last] at ho
      have HFF := hide hF
      have HO := hide ho
      clear hrs hF ho hacc HRS HOUT H8
      go_wp2
      rw [HO.out]
      exact ⟨rfl, HFF.out, rfl⟩

theorem RQ.no {α : Type} {w : World} {rb : Nat} {ok : α → Ending → World → Prop} {out : Option α} {e : Ending} {w' : World} (h : RQ w rb ok out e w') (ho : out = none) : e = .panicked PAN ∧ Fr (fun j => j = rb) w w' := by
  subst ho
  exact ⟨h.2, h.1⟩
theorem RQ.yes {α : Type} {w : World} {rb : Nat} {ok : α → Ending → World → Prop} {out : Option α} {a : α} {e : Ending} {w' : World} (h : RQ w rb ok out e w') (ho : out = some a) : ok a e w' ∧ Fr (fun j => j = rb) w w' := by
  subst ho
  exact ⟨h.2, h.1⟩
theorem RQ.mkno {α : Type} {w : World} {rb : Nat} {ok : α → Ending → World → Prop} {out : Option α} {w' : World} (ho : out = none) (F : Fr (fun j => j = rb) w w') : RQ w rb ok out (.panicked PAN) w' := by
  subst ho
  exact ⟨F, rfl⟩
theorem RQ.mk' {α : Type} {w : World} {rb : Nat} {ok : α → Ending → World → Prop} {out : Option α} {a : α} {e : Ending} {w' : World} (ho : out = some a) (F : Fr (fun j => j = rb) w w') (h : ok a e w') : RQ w rb ok out e w' := by
  subst ho
  exact ⟨F, h⟩
theorem rdnum_no {w0 w : World} {rb p : Nat} {l : List Nat} (h : RS w0 w rb l p) (h8 : By8 l) (ho : rdNum l = none) : Calls Try.prog 60 #[.pointer (some ⟨rb, 0, none⟩)] w fun e w' => e = .panicked PAN ∧ Fr (fun j => j = rb) w w' :=
  (rdnum_any w0 w rb p l h h8).mono (fun _ _ q => q.no ho)
theorem rdnum_yes {w0 w : World} {rb p n : Nat} {l m : List Nat} (h : RS w0 w rb l p) (h8 : By8 l) (ho : rdNum l = some (n, m)) : Calls Try.prog 60 #[.pointer (some ⟨rb, 0, none⟩)] w fun e w' => e = .returned (.int .i64 (n : Int)) ∧ RS w0 w' rb m p ∧ Fr (fun j => j = rb) w w' :=
  (rdnum_any w0 w rb p l h h8).mono (fun _ _ q => by obtain ⟨⟨h1, h2⟩, F⟩ := q.yes ho; exact ⟨h1, h2, F⟩)
/-- What is left is of what was there. -/
theorem rdG_suf : ∀ (f i acc : Nat) (l : List Nat) (n : Nat) (m : List Nat), rdG f i acc l = some (n, m) → n ≤ 1099511627776 ∧ m <:+ l ∧ m.length < l.length
  | 0, _, _, _, _, _, h => by cases h
  | f + 1, _, _, [], _, _, h => by cases h
  | f + 1, i, acc, b :: l, n, m, h => by
    rw [rdG_cons] at h
    split at h
    · split at h
      · rename_i h1
        cases h
        exact ⟨h1.2, List.suffix_cons _ _, by simp⟩
      · cases h
    · obtain ⟨h1, h2, h3⟩ := rdG_suf f _ _ l n m h
      exact ⟨h1, h2.trans (List.suffix_cons _ _), by simp; omega⟩
theorem rdNum_le {l m : List Nat} {n : Nat} (h : rdNum l = some (n, m)) : n ≤ 1099511627776 := (rdG_suf _ _ _ _ _ _ h).1
theorem rdNum_len {l m : List Nat} {n : Nat} (h : rdNum l = some (n, m)) : m.length < l.length := (rdG_suf _ _ _ _ _ _ h).2.2
theorem By8.suf {l m : List Nat} (h : By8 l) (hm : m <:+ l) : By8 m := fun x hx => h x (hm.subset hx)
theorem rdNum_by8 {l m : List Nat} {n : Nat} (h : rdNum l = some (n, m)) (h8 : By8 l) : By8 m := h8.suf (rdG_suf _ _ _ _ _ _ h).2.1

/-- A signed number, a flag, a count, a limb, a text. -/
def unS (n : Nat) : Int := if n % 2 = 1 then -(((n + 1) / 2 : Nat) : Int) else ((n / 2 : Nat) : Int)
def rdSgn (l : List Nat) : Option (Int × List Nat) := match rdNum l with
  | none => none
  | some (n, m) => some (unS n, m)
def rdFlag : List Nat → Option (Bool × List Nat)
  | [] => none
  | b :: l => if b ≤ 1 then some (decide (b = 1), l) else none
def rdCnt (k : Nat) (l : List Nat) : Option (Nat × List Nat) := match rdNum l with
  | none => none
  | some (n, m) => if n ≤ m.length / k then some (n, m) else none
def rdLimb (l : List Nat) : Option (Nat × List Nat) := match rdNum l with
  | none => none
  | some (n, m) => if n ≤ 4294967295 then some (n, m) else none
def rdTxt (l : List Nat) : Option (ByteArray × List Nat) := match rdCnt 1 l with
  | none => none
  | some (n, m) => some (strL (m.take n), m.drop n)

set_option maxRecDepth 20000 in
theorem rdsgn_any (w0 w : World) (rb p : Nat) (l : List Nat) (h : RS w0 w rb l p) (h8 : By8 l) :
    Calls Try.prog 73 #[.pointer (some ⟨rb, 0, none⟩)] w fun e w' => RQ w rb (fun x e w' => e = .returned (.int .i64 x.1) ∧ RS w0 w' rb x.2 p) (rdSgn l) e w' := by
  cases hn : rdNum l with
  | none =>
    have K := hide (rdnum_no h h8 hn)
    have HO : Hid (rdSgn l = none) := by unfold Hid rdSgn; rw [hn]
    clear h hn
    go_enter Try.func73, Try.ntmps73
    go_wp2_with (go_at_call 60; refine K.out.mono ?_; rintro e1 w1 ⟨rfl, F1⟩; have HF1 := hide F1; clear F1)
    exact ⟨rfl, RQ.mkno HO.out HF1.out⟩
  | some x =>
    obtain ⟨n, m⟩ := x
    have K := hide (rdnum_yes h h8 hn)
    have HO : Hid (rdSgn l = some (unS n, m)) := by unfold Hid rdSgn; rw [hn]
    have hle := rdNum_le hn
    clear h hn
    by_cases ho : n % 2 = 1
    · have g1 : ((n : Int) % 2 == 1) = true := by rw [beq_iff_eq]; omega
      have HV : Hid (wrap64 (-((n : Int) + 1).tdiv 2) = unS n) := by
        unfold Hid unS wrap64
        rw [if_pos ho, Int.tdiv_eq_ediv_of_nonneg (by omega)]
        omega
      go_enter Try.func73, Try.ntmps73
      go_wp2_with (go_at_call 60; refine K.out.mono ?_; rintro e1 w1 ⟨rfl, hr1, F1⟩; have HF1 := hide F1; have HR1 := hide hr1; clear F1 hr1)
      go_ret
      exact RQ.mk' HO.out HF1.out ⟨congrArg (fun z : Int => Ending.returned (Value.int .i64 z)) HV.out, HR1.out⟩
    · have g1 : ((n : Int) % 2 == 1) = false := by rw [beq_eq_false_iff_ne]; omega
      have HV : Hid ((n : Int).tdiv 2 = unS n) := by
        unfold Hid unS
        rw [if_neg ho, Int.tdiv_eq_ediv_of_nonneg (by omega)]
        omega
      go_enter Try.func73, Try.ntmps73
      go_wp2_with (go_at_call 60; refine K.out.mono ?_; rintro e1 w1 ⟨rfl, hr1, F1⟩; have HF1 := hide F1; have HR1 := hide hr1; clear F1 hr1)
      go_ret
      exact RQ.mk' HO.out HF1.out ⟨congrArg (fun z : Int => Ending.returned (Value.int .i64 z)) HV.out, HR1.out⟩

set_option maxRecDepth 20000 in
theorem rdflag_any (w0 w : World) (rb p : Nat) (l : List Nat) (h : RS w0 w rb l p) :
    Calls Try.prog 62 #[.pointer (some ⟨rb, 0, none⟩)] w fun e w' => RQ w rb (fun x e w' => e = .returned (.bool x.1) ∧ RS w0 w' rb x.2 p) (rdFlag l) e w' := by
  match l, h with
  | [], h =>
    have K := hide (rtake_no w0 w rb p 1 [] h (by decide) (by decide))
    clear h
    go_enter Try.func62, Try.ntmps62
    go_wp2_with (go_at_call 47; refine K.out.mono ?_; rintro e1 w1 ⟨rfl, hw⟩; replace hw := hw.symm; subst hw)
    exact ⟨rfl, RQ.mkno rfl (Fr.refl _ _)⟩
  | b :: l, h =>
    have K := hide (rtake_yes w0 w rb p 1 (b :: l) h (by simp))
    clear h
    by_cases hb : b ≤ 1
    · have g1 : (b : Int) ≤ 1 := by omega
      have HO : Hid (rdFlag (b :: l) = some (decide (b = 1), l)) := by show (if b ≤ 1 then some (decide (b = 1), l) else none) = _; rw [if_pos hb]
      have HM := hide (fun (W : World) => must_yes W)
      have HV : Hid (((b : Int) == 1) = decide (b = 1)) := by
        unfold Hid
        by_cases e : b = 1
        · subst e; rfl
        · rw [decide_eq_false e, beq_eq_false_iff_ne]; omega
      go_enter Try.func62, Try.ntmps62
      go_wp2_with (first
        | (go_at_call 47; refine K.out.mono ?_; rintro e1 w1 ⟨v1, rfl, hb1, hr1, F1⟩; obtain ⟨g, off, cap, rfl, hc⟩ := BL.one hb1 hr1.1; have HR1 := hide hr1; have HF1 := hide F1; clear hb1 hr1 F1)
        | (go_at_call 46; refine (HM.out _).mono ?_; rintro e3 w3 ⟨rfl, hw⟩; replace hw := hw.symm; subst hw))
      go_ret
      exact RQ.mk' HO.out HF1.out ⟨congrArg (fun z : Bool => Ending.returned (Value.bool z)) HV.out, HR1.out⟩
    · have g1 : decide ((b : Int) ≤ 1) = false := decide_eq_false (by omega)
      have HO : Hid (rdFlag (b :: l) = none) := by show (if b ≤ 1 then some (decide (b = 1), l) else none) = _; rw [if_neg hb]
      have HM := hide (fun (W : World) => must_no W)
      go_enter Try.func62, Try.ntmps62
      go_wp2_with (first
        | (go_at_call 47; refine K.out.mono ?_; rintro e1 w1 ⟨v1, rfl, hb1, hr1, F1⟩; obtain ⟨g, off, cap, rfl, hc⟩ := BL.one hb1 hr1.1; have HR1 := hide hr1; have HF1 := hide F1; clear hb1 hr1 F1)
        | (go_at_call 46; refine (HM.out _).mono ?_; rintro e3 w3 ⟨rfl, hw⟩; replace hw := hw.symm; subst hw))
      exact ⟨rfl, RQ.mkno HO.out HF1.out⟩

set_option maxRecDepth 20000 in
theorem rdcnt_any (w0 w : World) (rb p k : Nat) (l : List Nat) (h : RS w0 w rb l p) (h8 : By8 l) (hk : 1 ≤ k) (hk2 : k ≤ 7) :
    Calls Try.prog 49 #[.pointer (some ⟨rb, 0, none⟩), .int .i64 (k : Int)] w fun e w' => RQ w rb (okN w0 rb p) (rdCnt k l) e w' := by
  cases hn : rdNum l with
  | none =>
    have K := hide (rdnum_no h h8 hn)
    have HO : Hid (rdCnt k l = none) := by unfold Hid rdCnt; rw [hn]
    clear h hn
    go_enter Try.func49, Try.ntmps49
    go_wp2_with (go_at_call 60; refine K.out.mono ?_; rintro e1 w1 ⟨rfl, F1⟩; have HF1 := hide F1; clear F1)
    exact ⟨rfl, RQ.mkno HO.out HF1.out⟩
  | some x =>
    obtain ⟨n, m⟩ := x
    have K := hide (rdnum_yes h h8 hn)
    have hmz : m.length ≤ 9223372036854775807 := by
      obtain ⟨-, -, v, ⟨ao, cap, -, h1, h2, -⟩, -⟩ := h
      have := rdNum_len hn
      omega
    have hkz : ((k : Int) == 0) = false := by rw [beq_eq_false_iff_ne]; omega
    have hkn : ¬ ((k : Int) = 0) := by omega
    have hdv : (m.length : Int).tdiv (k : Int) = ((m.length / k : Nat) : Int) := by rw [Int.tdiv_eq_ediv_of_nonneg (by omega)]; rfl
    have hdz : m.length / k ≤ m.length := Nat.div_le_self _ _
    have HO : rdCnt k l = if n ≤ m.length / k then some (n, m) else none := by unfold rdCnt; rw [hn]
    generalize m.length / k = dq at *
    have hwr : wrap64 (dq : Int) = (dq : Int) := by
      unfold wrap64
      omega
    have HO := hide HO
    clear h hn
    by_cases hq : n ≤ dq
    · have g1 : (n : Int) ≤ (dq : Int) := by omega
      have HM := hide (fun (W : World) => must_yes W)
      go_enter Try.func49, Try.ntmps49
      go_wp2_with (first
        | (go_at_call 60; refine K.out.mono ?_; rintro e1 w1 ⟨rfl, hr1, F1⟩; have HF1 := hide F1; obtain ⟨hU1, hrb1, v1, hB1, hR1⟩ := id hr1; obtain ⟨ao1, cap1, rfl, -⟩ := id hB1; have x0 := hR1.c0; have HR1 := hide hr1; clear F1 hr1 hU1 hB1 hR1)
        | (go_at_call 46; refine (HM.out _).mono ?_; rintro e3 w3 ⟨rfl, hw⟩; replace hw := hw.symm; subst hw))
      go_ret
      exact RQ.mk' (HO.out.trans (if_pos hq)) HF1.out ⟨rfl, HR1.out⟩
    · have g1 : ¬ ((n : Int) ≤ (dq : Int)) := by omega
      have g2 : decide ((n : Int) ≤ (dq : Int)) = false := decide_eq_false g1
      have HM := hide (fun (W : World) => must_no W)
      go_enter Try.func49, Try.ntmps49
      go_wp2_with (first
        | (go_at_call 60; refine K.out.mono ?_; rintro e1 w1 ⟨rfl, hr1, F1⟩; have HF1 := hide F1; obtain ⟨hU1, hrb1, v1, hB1, hR1⟩ := id hr1; obtain ⟨ao1, cap1, rfl, -⟩ := id hB1; have x0 := hR1.c0; have HR1 := hide hr1; clear F1 hr1 hU1 hB1 hR1)
        | (go_at_call 46; refine (HM.out _).mono ?_; rintro e3 w3 ⟨rfl, hw⟩; replace hw := hw.symm; subst hw))
      exact ⟨rfl, RQ.mkno (HO.out.trans (if_neg hq)) HF1.out⟩
set_option maxRecDepth 20000 in
theorem rdlimb_any (w0 w : World) (rb p : Nat) (l : List Nat) (h : RS w0 w rb l p) (h8 : By8 l) :
    Calls Try.prog 88 #[.pointer (some ⟨rb, 0, none⟩)] w fun e w' => RQ w rb (fun x e w' => e = .returned (.int .u32 (x.1 : Int)) ∧ RS w0 w' rb x.2 p) (rdLimb l) e w' := by
  cases hn : rdNum l with
  | none =>
    have K := hide (rdnum_no h h8 hn)
    have HO : Hid (rdLimb l = none) := by unfold Hid rdLimb; rw [hn]
    clear h hn
    go_enter Try.func88, Try.ntmps88
    go_wp2_with (go_at_call 60; refine K.out.mono ?_; rintro e1 w1 ⟨rfl, F1⟩; have HF1 := hide F1; clear F1)
    exact ⟨rfl, RQ.mkno HO.out HF1.out⟩
  | some x =>
    obtain ⟨n, m⟩ := x
    have K := hide (rdnum_yes h h8 hn)
    have HO : rdLimb l = if n ≤ 4294967295 then some (n, m) else none := by unfold rdLimb; rw [hn]
    have HO := hide HO
    clear h hn
    by_cases hq : n ≤ 4294967295
    · have g1 : (n : Int) ≤ 4294967295 := by omega
      have HM := hide (fun (W : World) => must_yes W)
      go_enter Try.func88, Try.ntmps88
      go_wp2_with (first
        | (go_at_call 60; refine K.out.mono ?_; rintro e1 w1 ⟨rfl, hr1, F1⟩; have HF1 := hide F1; obtain ⟨hU1, hrb1, v1, hB1, hR1⟩ := id hr1; obtain ⟨ao1, cap1, rfl, -⟩ := id hB1; have x0 := hR1.c0; have HR1 := hide hr1; clear F1 hr1 hU1 hB1 hR1)
        | (go_at_call 46; refine (HM.out _).mono ?_; rintro e3 w3 ⟨rfl, hw⟩; replace hw := hw.symm; subst hw))
      go_ret
      exact RQ.mk' (HO.out.trans (if_pos hq)) HF1.out ⟨rfl, HR1.out⟩
    · have g1 : ¬ ((n : Int) ≤ 4294967295) := by omega
      have g2 : decide ((n : Int) ≤ 4294967295) = false := decide_eq_false g1
      have HM := hide (fun (W : World) => must_no W)
      go_enter Try.func88, Try.ntmps88
      go_wp2_with (first
        | (go_at_call 60; refine K.out.mono ?_; rintro e1 w1 ⟨rfl, hr1, F1⟩; have HF1 := hide F1; obtain ⟨hU1, hrb1, v1, hB1, hR1⟩ := id hr1; obtain ⟨ao1, cap1, rfl, -⟩ := id hB1; have x0 := hR1.c0; have HR1 := hide hr1; clear F1 hr1 hU1 hB1 hR1)
        | (go_at_call 46; refine (HM.out _).mono ?_; rintro e3 w3 ⟨rfl, hw⟩; replace hw := hw.symm; subst hw))
      exact ⟨rfl, RQ.mkno (HO.out.trans (if_neg hq)) HF1.out⟩
theorem BL.conv {w W : World} {v : Value} {l : List Nat} (h : BL w v l) (u : Up w W) : (convert 23 9 v).run Try.prog W = .ok (.string (strL l)) W := by
  obtain ⟨ao, cap, rfl, h1, h2, h3⟩ := h.up u
  rcases h3 with ⟨rfl, rfl⟩ | ⟨g, off, rfl, hc⟩
  · have hS : l = [] := List.eq_nil_of_length_eq_zero (by omega)
    subst hS
    exact run_convert_bytes_nil W 23 5 Try.underlying23 Try.underlying5 0 0 9 Try.underlying9
  · exact run_convert_bytes_arg W 23 5 Try.underlying23 Try.underlying5 g off l.length cap _ (by simp) (fun j hj => by
      rw [hc j (by simpa using hj)]
      simp [List.getD_eq_getElem?_getD, hj]) 9 Try.underlying9
set_option maxRecDepth 20000 in
theorem rdtxt_any (w0 w : World) (rb p : Nat) (l : List Nat) (h : RS w0 w rb l p) (h8 : By8 l) :
    Calls Try.prog 61 #[.pointer (some ⟨rb, 0, none⟩)] w fun e w' => RQ w rb (fun x e w' => e = .returned (.string x.1) ∧ RS w0 w' rb x.2 p) (rdTxt l) e w' := by
  cases hn : rdCnt 1 l with
  | none =>
    have K := hide ((rdcnt_any w0 w rb p 1 l h h8 (by decide) (by decide)).mono (fun _ _ q => q.no hn))
    have HO : Hid (rdTxt l = none) := by unfold Hid rdTxt; rw [hn]
    clear h hn
    go_enter Try.func61, Try.ntmps61
    go_wp2_with (go_at_call 49; refine K.out.mono ?_; rintro e1 w1 ⟨rfl, F1⟩; have HF1 := hide F1; clear F1)
    exact ⟨rfl, RQ.mkno HO.out HF1.out⟩
  | some x =>
    obtain ⟨n, m⟩ := x
    have K := hide ((rdcnt_any w0 w rb p 1 l h h8 (by decide) (by decide)).mono (fun _ _ q => q.yes hn))
    have hnm : n ≤ m.length := by
      unfold rdCnt at hn
      split at hn
      · cases hn
      · split at hn
        · rename_i h1
          cases hn
          rw [Nat.div_one] at h1
          exact h1
        · cases hn
    have HT := hide (fun (W : World) (hr : RS w0 W rb m p) => rtake_yes w0 W rb p n m hr hnm)
    have HO : Hid (rdTxt l = some (strL (m.take n), m.drop n)) := by unfold Hid rdTxt; rw [hn]
    clear h hn
    go_enter Try.func61, Try.ntmps61
    go_wp2_with (first
      | (go_at_call 49; refine K.out.mono ?_; rintro e1 w1 ⟨⟨rfl, hr1⟩, F1⟩; have HF1 := hide F1; have HR1 := hide hr1; clear F1 hr1)
      | (go_at_call 47; refine (HT.out _ HR1.out).mono ?_; rintro e2 w2 ⟨v2, rfl, hb2, hr2, F2⟩; have k2 := hb2.conv hr2.1; have HF2 := hide (HF1.out.trans F2 (fun _ _ e => e)); have HR2 := hide hr2; clear F2 hr2 hb2))
    go_ret
    exact RQ.mk' HO.out HF2.out ⟨rfl, HR2.out⟩

end Go.Proofs.Ytilcigjhogcjkaa
