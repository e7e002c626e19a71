/-
  What is proved here: the reader's signed, flag, count, limb, text, spend (package pack).
-/
import Derived.Test.YtmgaofpjbeihdaaPRNum
import Derived.Test.YtmgaofpjbeihdaaPKSame
namespace Go.Proofs.Ytmgaofpjbeihdaa
open Go Go.RowKit

theorem RQ.no {α : Type} {w : World} {rb : Nat} {ok : α → Ending → World → Prop} {out : Option α} {e : Ending} {w' : World} (h : RQ w rb ok out e w') (ho : out = none) : e = .panicked PAN ∧ Fr (fun j => j = rb) w w' := by
  subst ho
  exact ⟨h.2, h.1⟩
theorem RQ.yes {α : Type} {w : World} {rb : Nat} {ok : α → Ending → World → Prop} {out : Option α} {a : α} {e : Ending} {w' : World} (h : RQ w rb ok out e w') (ho : out = some a) : ok a e w' ∧ Fr (fun j => j = rb) w w' := by
  subst ho
  exact ⟨h.2, h.1⟩
theorem RQ.mkno {α : Type} {w : World} {rb : Nat} {ok : α → Ending → World → Prop} {out : Option α} {w' : World} (ho : out = none) (F : Fr (fun j => j = rb) w w') : RQ w rb ok out (.panicked PAN) w' := by
  subst ho
  exact ⟨F, rfl⟩
theorem RQ.mk' {α : Type} {w : World} {rb : Nat} {ok : α → Ending → World → Prop} {out : Option α} {a : α} {e : Ending} {w' : World} (ho : out = some a) (F : Fr (fun j => j = rb) w w') (h : ok a e w') : RQ w rb ok out e w' := by
  subst ho
  exact ⟨F, h⟩
theorem rdnum_no {w0 w : World} {rb p : Nat} {l : List Nat} (h : RS w0 w rb l p) (h8 : By8 l) (ho : rdNum l = none) : Calls Try.prog 60 #[.pointer (some ⟨rb, 0, none⟩)] w fun e w' => e = .panicked PAN ∧ Fr (fun j => j = rb) w w' :=
  (rdnum_any w0 w rb p l h h8).mono (fun _ _ q => q.no ho)
theorem rdnum_yes {w0 w : World} {rb p n : Nat} {l m : List Nat} (h : RS w0 w rb l p) (h8 : By8 l) (ho : rdNum l = some (n, m)) : Calls Try.prog 60 #[.pointer (some ⟨rb, 0, none⟩)] w fun e w' => e = .returned (.int .i64 (n : Int)) ∧ RS w0 w' rb m p ∧ Fr (fun j => j = rb) w w' :=
  (rdnum_any w0 w rb p l h h8).mono (fun _ _ q => by obtain ⟨⟨h1, h2⟩, F⟩ := q.yes ho; exact ⟨h1, h2, F⟩)
/-- What is left is of what was there. -/
theorem rdG_suf : ∀ (f i acc : Nat) (l : List Nat) (n : Nat) (m : List Nat), rdG f i acc l = some (n, m) → n ≤ 1099511627776 ∧ m <:+ l ∧ m.length < l.length
  | 0, _, _, _, _, _, h => by cases h
  | f + 1, _, _, [], _, _, h => by cases h
  | f + 1, i, acc, b :: l, n, m, h => by
    rw [rdG_cons] at h
    split at h
    · split at h
      · rename_i h1
        cases h
        exact ⟨h1.2, List.suffix_cons _ _, by simp⟩
      · cases h
    · obtain ⟨h1, h2, h3⟩ := rdG_suf f _ _ l n m h
      exact ⟨h1, h2.trans (List.suffix_cons _ _), by simp; omega⟩
theorem rdNum_le {l m : List Nat} {n : Nat} (h : rdNum l = some (n, m)) : n ≤ 1099511627776 := (rdG_suf _ _ _ _ _ _ h).1
theorem rdNum_len {l m : List Nat} {n : Nat} (h : rdNum l = some (n, m)) : m.length < l.length := (rdG_suf _ _ _ _ _ _ h).2.2
theorem By8.suf {l m : List Nat} (h : By8 l) (hm : m <:+ l) : By8 m := fun x hx => h x (hm.subset hx)
theorem rdNum_by8 {l m : List Nat} {n : Nat} (h : rdNum l = some (n, m)) (h8 : By8 l) : By8 m := h8.suf (rdG_suf _ _ _ _ _ _ h).2.1

/-- A signed number, a flag, a count, a limb, a text. -/
def unS (n : Nat) : Int := if n % 2 = 1 then -(((n + 1) / 2 : Nat) : Int) else ((n / 2 : Nat) : Int)
def rdSgn (l : List Nat) : Option (Int × List Nat) := match rdNum l with
  | none => none
  | some (n, m) => some (unS n, m)
def rdFlag : List Nat → Option (Bool × List Nat)
  | [] => none
  | b :: l => if b ≤ 1 then some (decide (b = 1), l) else none
def rdCnt (k : Nat) (l : List Nat) : Option (Nat × List Nat) := match rdNum l with
  | none => none
  | some (n, m) => if n ≤ m.length / k then some (n, m) else none
def rdLimb (l : List Nat) : Option (Nat × List Nat) := match rdNum l with
  | none => none
  | some (n, m) => if n ≤ 4294967295 then some (n, m) else none
def rdTxt (l : List Nat) : Option (ByteArray × List Nat) := match rdCnt 1 l with
  | none => none
  | some (n, m) => some (strL (m.take n), m.drop n)

set_option maxRecDepth 20000 in
theorem rdsgn_any (w0 w : World) (rb p : Nat) (l : List Nat) (h : RS w0 w rb l p) (h8 : By8 l) :
    Calls Try.prog 73 #[.pointer (some ⟨rb, 0, none⟩)] w fun e w' => RQ w rb (fun x e w' => e = .returned (.int .i64 x.1) ∧ RS w0 w' rb x.2 p) (rdSgn l) e w' := by
  cases hn : rdNum l with
  | none =>
    have K := hide (rdnum_no h h8 hn)
    have HO : Hid (rdSgn l = none) := by unfold Hid rdSgn; rw [hn]
    clear h hn
    go_enter Try.func73, Try.ntmps73
    go_wp2_with (go_at_call 60; refine K.out.mono ?_; rintro e1 w1 ⟨rfl, F1⟩; have HF1 := hide F1; clear F1)
    exact ⟨rfl, RQ.mkno HO.out HF1.out⟩
  | some x =>
    obtain ⟨n, m⟩ := x
    have K := hide (rdnum_yes h h8 hn)
    have HO : Hid (rdSgn l = some (unS n, m)) := by unfold Hid rdSgn; rw [hn]
    have hle := rdNum_le hn
    clear h hn
    by_cases ho : n % 2 = 1
    · have g1 : ((n : Int) % 2 == 1) = true := by rw [beq_iff_eq]; omega
      have HV : Hid (wrap64 (-((n : Int) + 1).tdiv 2) = unS n) := by
        unfold Hid unS wrap64
        rw [if_pos ho, Int.tdiv_eq_ediv_of_nonneg (by omega)]
        omega
      go_enter Try.func73, Try.ntmps73
      go_wp2_with (go_at_call 60; refine K.out.mono ?_; rintro e1 w1 ⟨rfl, hr1, F1⟩; have HF1 := hide F1; have HR1 := hide hr1; clear F1 hr1)
      go_ret
      exact RQ.mk' HO.out HF1.out ⟨congrArg (fun z : Int => Ending.returned (Value.int .i64 z)) HV.out, HR1.out⟩
    · have g1 : ((n : Int) % 2 == 1) = false := by rw [beq_eq_false_iff_ne]; omega
      have HV : Hid ((n : Int).tdiv 2 = unS n) := by
        unfold Hid unS
        rw [if_neg ho, Int.tdiv_eq_ediv_of_nonneg (by omega)]
        omega
      go_enter Try.func73, Try.ntmps73
      go_wp2_with (go_at_call 60; refine K.out.mono ?_; rintro e1 w1 ⟨rfl, hr1, F1⟩; have HF1 := hide F1; have HR1 := hide hr1; clear F1 hr1)
      go_ret
      exact RQ.mk' HO.out HF1.out ⟨congrArg (fun z : Int => Ending.returned (Value.int .i64 z)) HV.out, HR1.out⟩

set_option maxRecDepth 20000 in
theorem rdflag_any (w0 w : World) (rb p : Nat) (l : List Nat) (h : RS w0 w rb l p) :
    Calls Try.prog 62 #[.pointer (some ⟨rb, 0, none⟩)] w fun e w' => RQ w rb (fun x e w' => e = .returned (.bool x.1) ∧ RS w0 w' rb x.2 p) (rdFlag l) e w' := by
  match l, h with
  | [], h =>
    have K := hide (rtake_no w0 w rb p 1 [] h (by decide) (by decide))
    clear h
    go_enter Try.func62, Try.ntmps62
    go_wp2_with (go_at_call 47; refine K.out.mono ?_; rintro e1 w1 ⟨rfl, hw⟩; replace hw := hw.symm; subst hw)
    exact ⟨rfl, RQ.mkno rfl (Fr.refl _ _)⟩
  | b :: l, h =>
    have K := hide (rtake_yes w0 w rb p 1 (b :: l) h (by simp))
    clear h
    by_cases hb : b ≤ 1
    · have g1 : (b : Int) ≤ 1 := by omega
      have HO : Hid (rdFlag (b :: l) = some (decide (b = 1), l)) := by show (if b ≤ 1 then some (decide (b = 1), l) else none) = _; rw [if_pos hb]
      have HM := hide (fun (W : World) => must_yes W)
      have HV : Hid (((b : Int) == 1) = decide (b = 1)) := by
        unfold Hid
        by_cases e : b = 1
        · subst e; rfl
        · rw [decide_eq_false e, beq_eq_false_iff_ne]; omega
      go_enter Try.func62, Try.ntmps62
      go_wp2_with (first
        | (go_at_call 47; refine K.out.mono ?_; rintro e1 w1 ⟨v1, rfl, hb1, hr1, F1⟩; obtain ⟨g, off, cap, rfl, hc⟩ := BL.one hb1 hr1.1; have HR1 := hide hr1; have HF1 := hide F1; clear hb1 hr1 F1)
        | (go_at_call 46; refine (HM.out _).mono ?_; rintro e3 w3 ⟨rfl, hw⟩; replace hw := hw.symm; subst hw))
      go_ret
      exact RQ.mk' HO.out HF1.out ⟨congrArg (fun z : Bool => Ending.returned (Value.bool z)) HV.out, HR1.out⟩
    · have g1 : decide ((b : Int) ≤ 1) = false := decide_eq_false (by omega)
      have HO : Hid (rdFlag (b :: l) = none) := by show (if b ≤ 1 then some (decide (b = 1), l) else none) = _; rw [if_neg hb]
      have HM := hide (fun (W : World) => must_no W)
      go_enter Try.func62, Try.ntmps62
      go_wp2_with (first
        | (go_at_call 47; refine K.out.mono ?_; rintro e1 w1 ⟨v1, rfl, hb1, hr1, F1⟩; obtain ⟨g, off, cap, rfl, hc⟩ := BL.one hb1 hr1.1; have HR1 := hide hr1; have HF1 := hide F1; clear hb1 hr1 F1)
        | (go_at_call 46; refine (HM.out _).mono ?_; rintro e3 w3 ⟨rfl, hw⟩; replace hw := hw.symm; subst hw))
      exact ⟨rfl, RQ.mkno HO.out HF1.out⟩

set_option maxRecDepth 20000 in
theorem rdcnt_any (w0 w : World) (rb p k : Nat) (l : List Nat) (h : RS w0 w rb l p) (h8 : By8 l) (hk : 1 ≤ k) (hk2 : k ≤ 7) :
    Calls Try.prog 49 #[.pointer (some ⟨rb, 0, none⟩), .int .i64 (k : Int)] w fun e w' => RQ w rb (okN w0 rb p) (rdCnt k l) e w' := by
  cases hn : rdNum l with
  | none =>
    have K := hide (rdnum_no h h8 hn)
    have HO : Hid (rdCnt k l = none) := by unfold Hid rdCnt; rw [hn]
    clear h hn
    go_enter Try.func49, Try.ntmps49
    go_wp2_with (go_at_call 60; refine K.out.mono ?_; rintro e1 w1 ⟨rfl, F1⟩; have HF1 := hide F1; clear F1)
    exact ⟨rfl, RQ.mkno HO.out HF1.out⟩
  | some x =>
    obtain ⟨n, m⟩ := x
    have K := hide (rdnum_yes h h8 hn)
    have hmz : m.length ≤ 9223372036854775807 := by
      obtain ⟨-, -, v, ⟨ao, cap, -, h1, h2, -⟩, -⟩ := h
      have := rdNum_len hn
      omega
    have hkz : ((k : Int) == 0) = false := by rw [beq_eq_false_iff_ne]; omega
    have hkn : ¬ ((k : Int) = 0) := by omega
    have hdv : (m.length : Int).tdiv (k : Int) = ((m.length / k : Nat) : Int) := by rw [Int.tdiv_eq_ediv_of_nonneg (by omega)]; rfl
    have hdz : m.length / k ≤ m.length := Nat.div_le_self _ _
    have HO : rdCnt k l = if n ≤ m.length / k then some (n, m) else none := by unfold rdCnt; rw [hn]
    generalize m.length / k = dq at *
    have hwr : wrap64 (dq : Int) = (dq : Int) := by
      unfold wrap64
      omega
    have HO := hide HO
    clear h hn
    by_cases hq : n ≤ dq
    · have g1 : (n : Int) ≤ (dq : Int) := by omega
      have HM := hide (fun (W : World) => must_yes W)
      go_enter Try.func49, Try.ntmps49
      go_wp2_with (first
        | (go_at_call 60; refine K.out.mono ?_; rintro e1 w1 ⟨rfl, hr1, F1⟩; have HF1 := hide F1; obtain ⟨hU1, hrb1, v1, hB1, hR1⟩ := id hr1; obtain ⟨ao1, cap1, rfl, -⟩ := id hB1; have x0 := hR1.c0; have HR1 := hide hr1; clear F1 hr1 hU1 hB1 hR1)
        | (go_at_call 46; refine (HM.out _).mono ?_; rintro e3 w3 ⟨rfl, hw⟩; replace hw := hw.symm; subst hw))
      go_ret
      exact RQ.mk' (HO.out.trans (if_pos hq)) HF1.out ⟨rfl, HR1.out⟩
    · have g1 : ¬ ((n : Int) ≤ (dq : Int)) := by omega
      have g2 : decide ((n : Int) ≤ (dq : Int)) = false := decide_eq_false g1
      have HM := hide (fun (W : World) => must_no W)
      go_enter Try.func49, Try.ntmps49
      go_wp2_with (first
        | (go_at_call 60; refine K.out.mono ?_; rintro e1 w1 ⟨rfl, hr1, F1⟩; have HF1 := hide F1; obtain ⟨hU1, hrb1, v1, hB1, hR1⟩ := id hr1; obtain ⟨ao1, cap1, rfl, -⟩ := id hB1; have x0 := hR1.c0; have HR1 := hide hr1; clear F1 hr1 hU1 hB1 hR1)
        | (go_at_call 46; refine (HM.out _).mono ?_; rintro e3 w3 ⟨rfl, hw⟩; replace hw := hw.symm; subst hw))
      exact ⟨rfl, RQ.mkno (HO.out.trans (if_neg hq)) HF1.out⟩
set_option maxRecDepth 20000 in
theorem rdlimb_any (w0 w : World) (rb p : Nat) (l : List Nat) (h : RS w0 w rb l p) (h8 : By8 l) :
    Calls Try.prog 88 #[.pointer (some ⟨rb, 0, none⟩)] w fun e w' => RQ w rb (fun x e w' => e = .returned (.int .u32 (x.1 : Int)) ∧ RS w0 w' rb x.2 p) (rdLimb l) e w' := by
  cases hn : rdNum l with
  | none =>
    have K := hide (rdnum_no h h8 hn)
    have HO : Hid (rdLimb l = none) := by unfold Hid rdLimb; rw [hn]
    clear h hn
    go_enter Try.func88, Try.ntmps88
    go_wp2_with (go_at_call 60; refine K.out.mono ?_; rintro e1 w1 ⟨rfl, F1⟩; have HF1 := hide F1; clear F1)
    exact ⟨rfl, RQ.mkno HO.out HF1.out⟩
  | some x =>
    obtain ⟨n, m⟩ := x
    have K := hide (rdnum_yes h h8 hn)
    have HO : rdLimb l = if n ≤ 4294967295 then some (n, m) else none := by unfold rdLimb; rw [hn]
    have HO := hide HO
    clear h hn
    by_cases hq : n ≤ 4294967295
    · have g1 : (n : Int) ≤ 4294967295 := by omega
      have HM := hide (fun (W : World) => must_yes W)
      go_enter Try.func88, Try.ntmps88
      go_wp2_with (first
        | (go_at_call 60; refine K.out.mono ?_; rintro e1 w1 ⟨rfl, hr1, F1⟩; have HF1 := hide F1; obtain ⟨hU1, hrb1, v1, hB1, hR1⟩ := id hr1; obtain ⟨ao1, cap1, rfl, -⟩ := id hB1; have x0 := hR1.c0; have HR1 := hide hr1; clear F1 hr1 hU1 hB1 hR1)
        | (go_at_call 46; refine (HM.out _).mono ?_; rintro e3 w3 ⟨rfl, hw⟩; replace hw := hw.symm; subst hw))
      go_ret
      exact RQ.mk' (HO.out.trans (if_pos hq)) HF1.out ⟨rfl, HR1.out⟩
    · have g1 : ¬ ((n : Int) ≤ 4294967295) := by omega
      have g2 : decide ((n : Int) ≤ 4294967295) = false := decide_eq_false g1
      have HM := hide (fun (W : World) => must_no W)
      go_enter Try.func88, Try.ntmps88
      go_wp2_with (first
        | (go_at_call 60; refine K.out.mono ?_; rintro e1 w1 ⟨rfl, hr1, F1⟩; have HF1 := hide F1; obtain ⟨hU1, hrb1, v1, hB1, hR1⟩ := id hr1; obtain ⟨ao1, cap1, rfl, -⟩ := id hB1; have x0 := hR1.c0; have HR1 := hide hr1; clear F1 hr1 hU1 hB1 hR1)
        | (go_at_call 46; refine (HM.out _).mono ?_; rintro e3 w3 ⟨rfl, hw⟩; replace hw := hw.symm; subst hw))
      exact ⟨rfl, RQ.mkno (HO.out.trans (if_neg hq)) HF1.out⟩
theorem BL.conv {w W : World} {v : Value} {l : List Nat} (h : BL w v l) (u : Up w W) : (convert 23 9 v).run Try.prog W = .ok (.string (strL l)) W := by
  obtain ⟨ao, cap, rfl, h1, h2, h3⟩ := h.up u
  rcases h3 with ⟨rfl, rfl⟩ | ⟨g, off, rfl, hc⟩
  · have hS : l = [] := List.eq_nil_of_length_eq_zero (by omega)
    subst hS
    exact run_convert_bytes_nil W 23 5 Try.underlying23 Try.underlying5 0 0 9 Try.underlying9
  · exact run_convert_bytes_arg W 23 5 Try.underlying23 Try.underlying5 g off l.length cap _ (by simp) (fun j hj => by
      rw [hc j (by simpa using hj)]
      simp [List.getD_eq_getElem?_getD, hj]) 9 Try.underlying9
set_option maxRecDepth 20000 in
theorem rdtxt_any (w0 w : World) (rb p : Nat) (l : List Nat) (h : RS w0 w rb l p) (h8 : By8 l) :
    Calls Try.prog 61 #[.pointer (some ⟨rb, 0, none⟩)] w fun e w' => RQ w rb (fun x e w' => e = .returned (.string x.1) ∧ RS w0 w' rb x.2 p) (rdTxt l) e w' := by
  cases hn : rdCnt 1 l with
  | none =>
    have K := hide ((rdcnt_any w0 w rb p 1 l h h8 (by decide) (by decide)).mono (fun _ _ q => q.no hn))
    have HO : Hid (rdTxt l = none) := by unfold Hid rdTxt; rw [hn]
    clear h hn
    go_enter Try.func61, Try.ntmps61
    go_wp2_with (go_at_call 49; refine K.out.mono ?_; rintro e1 w1 ⟨rfl, F1⟩; have HF1 := hide F1; clear F1)
    exact ⟨rfl, RQ.mkno HO.out HF1.out⟩
  | some x =>
    obtain ⟨n, m⟩ := x
    have K := hide ((rdcnt_any w0 w rb p 1 l h h8 (by decide) (by decide)).mono (fun _ _ q => q.yes hn))
    have hnm : n ≤ m.length := by
      unfold rdCnt at hn
      split at hn
      · cases hn
      · split at hn
        · rename_i h1
          cases hn
          rw [Nat.div_one] at h1
          exact h1
        · cases hn
    have HT := hide (fun (W : World) (hr : RS w0 W rb m p) => rtake_yes w0 W rb p n m hr hnm)
    have HO : Hid (rdTxt l = some (strL (m.take n), m.drop n)) := by unfold Hid rdTxt; rw [hn]
    clear h hn
    go_enter Try.func61, Try.ntmps61
    go_wp2_with (first
      | (go_at_call 49; refine K.out.mono ?_; rintro e1 w1 ⟨⟨rfl, hr1⟩, F1⟩; have HF1 := hide F1; have HR1 := hide hr1; clear F1 hr1)
      | (go_at_call 47; refine (HT.out _ HR1.out).mono ?_; rintro e2 w2 ⟨v2, rfl, hb2, hr2, F2⟩; have k2 := hb2.conv hr2.1; have HF2 := hide (HF1.out.trans F2 (fun _ _ e => e)); have HR2 := hide hr2; clear F2 hr2 hb2))
    go_ret
    exact RQ.mk' HO.out HF2.out ⟨rfl, HR2.out⟩

end Go.Proofs.Ytmgaofpjbeihdaa
