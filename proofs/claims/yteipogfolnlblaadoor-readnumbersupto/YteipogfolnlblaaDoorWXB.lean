/-
  What is proved here: num.Parse of any text.
-/
import Derived.Test.YteipogfolnlblaaDoorWPA
import Derived.Test.YteipogfolnlblaaDoorWSData
namespace Go.Proofs.YteipogfolnlblaaDoor
open Go Go.RowKit
/-- A decimal digit. -/
def isDg (c : UInt8) : Bool := decide (48 ≤ c.toNat ∧ c.toNat ≤ 57)

/-- The number that digits say, if there are some and nothing else. -/
def digM (l : List UInt8) : Option Nat := if l ≠ [] ∧ l.all isDg = true then some (l.foldl (fun x c => x * 10 + (c.toNat - 48)) 0) else none

/-- The number that a sign or none and digits say. -/
def numM (l : List UInt8) : Option Int :=
  match l with
  | c :: l => if c = 43 then (digM l).map (fun x => sgn false x) else if c = 45 then (digM l).map (fun x => sgn true x) else (digM (c :: l)).map (fun x => sgn false x)
  | [] => none

theorem dec_fold (l : List UInt8) : ∀ k, k ≤ l.length → (l.take k).foldl (fun x c => x * 10 + (c.toNat - 48)) 0 = dec (fun i => (l.getD i 0).toNat - 48) k
  | 0, _ => by simp [dec]
  | k + 1, hk => by
    rw [List.take_succ_eq_append_getElem (by omega), List.foldl_append, dec_fold l k (by omega)]
    have e : l.getD k 0 = l[k] := by rw [List.getD_eq_getElem?_getD, List.getElem?_eq_getElem (by omega)]; rfl
    simp only [List.foldl_cons, List.foldl_nil, dec, e]

theorem get_list (s : ByteArray) (i : Nat) (h : i < s.size) : s[i] = s.data.toList.getD i 0 := by
  have hh : i < s.data.toList.length := by rw [bytes_len]; exact h
  rw [List.getD_eq_getElem?_getD, List.getElem?_eq_getElem hh]
  simp [ByteArray.getElem_eq_getElem_data]

theorem digs_of {s : ByteArray} {x : Nat} (h : digM s.data.toList = some x) : Digs s x := by
  unfold digM at h
  split at h
  · rename_i hc
    cases h
    refine ⟨fun i => (s.data.toList.getD i 0).toNat - 48, ?_, fun i hi => ?_, ?_⟩
    · rw [← bytes_len]
      exact List.length_pos_iff.2 hc.1
    · have hh : i < s.data.toList.length := by rw [bytes_len]; exact hi
      have hm := List.all_eq_true.1 hc.2 (s.data.toList.getD i 0) (by rw [List.getD_eq_getElem?_getD, List.getElem?_eq_getElem hh]; exact List.getElem_mem hh)
      have : 48 ≤ (s.data.toList.getD i 0).toNat ∧ (s.data.toList.getD i 0).toNat ≤ 57 := of_decide_eq_true hm
      rw [get_list s i hi]
      show (s.data.toList.getD i 0).toNat = 48 + ((s.data.toList.getD i 0).toNat - 48) ∧ (s.data.toList.getD i 0).toNat - 48 ≤ 9
      generalize (s.data.toList.getD i 0).toNat = v at *
      omega
    · rw [← bytes_len, ← dec_fold _ _ (Nat.le_refl _), List.take_length]
  · cases h

theorem bad_of {s : ByteArray} (h : digM s.data.toList = none) : s.size = 0 ∨ ∃ i, ∃ h : i < s.size, s[i].toNat < 48 ∨ 57 < s[i].toNat := by
  unfold digM at h
  split at h
  · cases h
  · rename_i hc
    by_cases h0 : s.data.toList = []
    · left; rw [← bytes_len, h0]; rfl
    · right
      have ha : ¬ (s.data.toList.all isDg = true) := fun e => hc ⟨h0, e⟩
      rw [List.all_eq_true] at ha
      have : ∃ c, c ∈ s.data.toList ∧ ¬ isDg c = true := by
        refine Classical.byContradiction fun hn => ha fun c hc => ?_
        exact Classical.byContradiction fun h => hn ⟨c, hc, h⟩
      obtain ⟨c, hm, hd⟩ := this
      obtain ⟨i, hi, rfl⟩ := List.getElem_of_mem hm
      have hi' : i < s.size := by rw [← bytes_len]; exact hi
      refine ⟨i, hi', ?_⟩
      have e : s[i] = s.data.toList[i] := by simp [ByteArray.getElem_eq_getElem_data]
      rw [e]
      have : ¬ (48 ≤ s.data.toList[i].toNat ∧ s.data.toList[i].toNat ≤ 57) := fun h => hd (decide_eq_true h)
      omega

theorem own_nil (w : World) (b : Nat) (f : Nat → Nat) : Own .u32 63 w b (.slice none 0 0) 0 f := .inl ⟨rfl, rfl⟩

theorem can_nil (f : Nat → Nat) : Can 4294967296 f 0 := ⟨fun i hi => by omega, .inl rfl⟩

set_option maxRecDepth 4000 in
set_option maxHeartbeats 1000000 in
theorem parsez_badsign (c : UInt8) (t : ByteArray) (w : World) (hc : c = 43 ∨ c = 45) (ht : t.size = 0 ∨ ∃ i, ∃ h : i < t.size, t[i].toNat < 48 ∨ 57 < t[i].toNat) (hs : 4 * (t.size + 3) ≤ 140737488355328) :
    Calls Tryd.prog 56 #[.string (⟨#[c]⟩ ++ t)] w fun e w' => ParseEnd none (t.size + 1) w e w' := by
  have hsz : (⟨#[c]⟩ ++ t : ByteArray).size = t.size + 1 := by rw [ByteArray.size_append]; show 1 + t.size = _; omega
  have hne := nonempty_of (⟨#[c]⟩ ++ t : ByteArray) (by omega)
  have hcut := cut_one c t
  have HT := hide ht
  clear ht
  go_enter Tryd.func56, Tryd.ntmps56
  rcases hc with rfl | rfl
  · go_wp2_with fail
    refine (parse_no t _ (by omega) HT.out).mono ?_
    rintro e w1 ⟨rfl, rfl⟩
    go_wp2_with fail
    refine (numberOf_own (w.heap.size + 1) _ 0 (fun _ => 0) false _ (own_nil _ _ _) (can_nil _)).mono ?_
    rintro e w2 ⟨a2, b2, rfl, o2, u2, c2, s2⟩
    have HS2 := hide s2
    clear s2
    obtain ⟨v2, rfl, o2⟩ := o2
    obtain ⟨ao2, cap2, rfl, -⟩ := id o2.sl
    go_wp2_with fail
    refine (answer_any _ b2 0 (fun _ => 0) _ ⟨_, rfl, o2.sl⟩).mono ?_
    rintro e w3 ⟨a3, rfl, h3, u3⟩
    obtain rfl := h3 _ rfl
    obtain ⟨d0, d1, g0, g1, lt, e0, e1⟩ := res2 w.heap.size rfl (u2.tr u3)
    go_wp2_with fail
    refine bodyPost_ret (by simp [results, Tryd.results56, go_sem, e0, e1]; rfl) rfl ?_
    refine ⟨_, b2, 0, (fun _ => 0), rfl, ⟨_, rfl, ((o2.up u3).set2 (by omega)).mono (by omega)⟩, Up.set2 ((up_alloc w _).tr (u2.tr u3)) (Nat.le_refl _), c2, Nat.zero_le _, ?_⟩
    rw [unhide HS2]
    rfl
  · go_wp2_with fail
    refine (parse_no t _ (by omega) HT.out).mono ?_
    rintro e w1 ⟨rfl, rfl⟩
    go_wp2_with fail
    refine (numberOf_own (w.heap.size + 1) _ 0 (fun _ => 0) true _ (own_nil _ _ _) (can_nil _)).mono ?_
    rintro e w2 ⟨a2, b2, rfl, o2, u2, c2, s2⟩
    have HS2 := hide s2
    clear s2
    obtain ⟨v2, rfl, o2⟩ := o2
    obtain ⟨ao2, cap2, rfl, -⟩ := id o2.sl
    go_wp2_with fail
    refine (answer_any _ b2 0 (fun _ => 0) _ ⟨_, rfl, o2.sl⟩).mono ?_
    rintro e w3 ⟨a3, rfl, h3, u3⟩
    obtain rfl := h3 _ rfl
    obtain ⟨d0, d1, g0, g1, lt, e0, e1⟩ := res2 w.heap.size rfl (u2.tr u3)
    go_wp2_with fail
    refine bodyPost_ret (by simp [results, Tryd.results56, go_sem, e0, e1]; rfl) rfl ?_
    refine ⟨_, b2, 0, (fun _ => 0), rfl, ⟨_, rfl, ((o2.up u3).set2 (by omega)).mono (by omega)⟩, Up.set2 ((up_alloc w _).tr (u2.tr u3)) (Nat.le_refl _), c2, Nat.zero_le _, ?_⟩
    rw [unhide HS2]
    rfl

set_option maxRecDepth 4000 in
set_option maxHeartbeats 1000000 in
theorem parsez_badplain (t : ByteArray) (w : World) (h0 : ∀ h : 0 < t.size, ¬ t[0].toNat = 43 ∧ ¬ t[0].toNat = 45) (ht : t.size = 0 ∨ ∃ i, ∃ h : i < t.size, t[i].toNat < 48 ∨ 57 < t[i].toNat) (hs : 4 * (t.size + 3) ≤ 140737488355328) :
    Calls Tryd.prog 56 #[.string t] w fun e w' => ParseEnd none (t.size + 1) w e w' := by
  have HT := hide ht
  clear ht
  rcases Nat.eq_zero_or_pos t.size with hz | hz
  · have hne : t.toList = [] := by rw [ByteArray.toList_eq]; exact List.eq_nil_of_length_eq_zero (by rw [bytes_len]; exact hz)
    have hnb : (t.toList == []) = true := by simpa using hne
    have hni : t.toList.isEmpty = true := by rw [hne]; rfl
    clear hne hz h0
    go_enter Tryd.func56, Tryd.ntmps56
    go_wp2_with fail
    refine (parse_no t _ (by omega) HT.out).mono ?_
    rintro e w1 ⟨rfl, rfl⟩
    go_wp2_with fail
    refine (numberOf_own (w.heap.size + 1) _ 0 (fun _ => 0) false _ (own_nil _ _ _) (can_nil _)).mono ?_
    rintro e w2 ⟨a2, b2, rfl, o2, u2, c2, s2⟩
    have HS2 := hide s2
    clear s2
    obtain ⟨v2, rfl, o2⟩ := o2
    obtain ⟨ao2, cap2, rfl, -⟩ := id o2.sl
    go_wp2_with fail
    refine (answer_any _ b2 0 (fun _ => 0) _ ⟨_, rfl, o2.sl⟩).mono ?_
    rintro e w3 ⟨a3, rfl, h3, u3⟩
    obtain rfl := h3 _ rfl
    obtain ⟨d0, d1, g0, g1, lt, e0, e1⟩ := res2 w.heap.size rfl (u2.tr u3)
    go_wp2_with fail
    refine bodyPost_ret (by simp [results, Tryd.results56, go_sem, e0, e1]; rfl) rfl ?_
    refine ⟨_, b2, 0, (fun _ => 0), rfl, ⟨_, rfl, ((o2.up u3).set2 (by omega)).mono (by omega)⟩, Up.set2 ((up_alloc w _).tr (u2.tr u3)) (Nat.le_refl _), c2, Nat.zero_le _, ?_⟩
    rw [unhide HS2]
    rfl
  · have hne := nonempty_of t hz
    have h1 := h0 hz
    have k1 : ((t[0].toNat : Int) == 43) = false := by simp; omega
    have k2 : ((t[0].toNat : Int) == 45) = false := by simp; omega
    clear h0 h1
    go_enter Tryd.func56, Tryd.ntmps56
    go_wp2_with fail
    refine (parse_no t _ (by omega) HT.out).mono ?_
    rintro e w1 ⟨rfl, rfl⟩
    go_wp2_with fail
    refine (numberOf_own (w.heap.size + 1) _ 0 (fun _ => 0) false _ (own_nil _ _ _) (can_nil _)).mono ?_
    rintro e w2 ⟨a2, b2, rfl, o2, u2, c2, s2⟩
    have HS2 := hide s2
    clear s2
    obtain ⟨v2, rfl, o2⟩ := o2
    obtain ⟨ao2, cap2, rfl, -⟩ := id o2.sl
    go_wp2_with fail
    refine (answer_any _ b2 0 (fun _ => 0) _ ⟨_, rfl, o2.sl⟩).mono ?_
    rintro e w3 ⟨a3, rfl, h3, u3⟩
    obtain rfl := h3 _ rfl
    obtain ⟨d0, d1, g0, g1, lt, e0, e1⟩ := res2 w.heap.size rfl (u2.tr u3)
    go_wp2_with fail
    refine bodyPost_ret (by simp [results, Tryd.results56, go_sem, e0, e1]; rfl) rfl ?_
    refine ⟨_, b2, 0, (fun _ => 0), rfl, ⟨_, rfl, ((o2.up u3).set2 (by omega)).mono (by omega)⟩, Up.set2 ((up_alloc w _).tr (u2.tr u3)) (Nat.le_refl _), c2, Nat.zero_le _, ?_⟩
    rw [unhide HS2]
    rfl

theorem ParseEnd.le {r : Option Int} {M M' : Nat} {w : World} {e : Ending} {w' : World} (h : ParseEnd r M w e w') (hM : M ≤ M') : ParseEnd r M' w e w' := by
  obtain ⟨a, b, n, f, h1, h2, h3, h4, h5, h6⟩ := h
  exact ⟨a, b, n, f, h1, h2, h3, h4, by omega, h6⟩

theorem numparse_any (r : ByteArray) (w : World) (hr : r.size ≤ 100000000) :
    Calls Tryd.prog 56 #[.string r] w fun e w' => ParseEnd (numM r.data.toList) (r.size + 1) w e w' := by
  match hl : r.data.toList with
  | [] =>
    have hz : r.size = 0 := by rw [← bytes_len, hl]; rfl
    exact parsez_badplain r w (fun h => by omega) (.inl hz) (by omega)
  | c :: l =>
    have hz : r.size = l.length + 1 := by rw [← bytes_len, hl]; rfl
    have zl : (⟨l.toArray⟩ : ByteArray).size = l.length := rfl
    have er : r = ⟨#[c]⟩ ++ ⟨l.toArray⟩ := by
      apply ByteArray.ext
      apply Array.ext'
      rw [hl, ByteArray.data_append]
      simp
    have el : (⟨l.toArray⟩ : ByteArray).data.toList = l := rfl
    have sign : ∀ s : Bool, (c = 43 ∨ c = 45) → (c == 45) = s → Calls Tryd.prog 56 #[.string r] w fun e w' => ParseEnd ((digM l).map (fun x => sgn s x)) (r.size + 1) w e w' := fun s hc hs => by
      match hd : digM l with
      | some x =>
        have := parsez_sign c ⟨l.toArray⟩ x w hc (digs_of (by rw [el]; exact hd)) (by rw [zl]; omega)
        rw [← er, hs] at this
        exact this.mono fun _ _ h => h.le (by rw [zl]; omega)
      | none =>
        have := parsez_badsign c ⟨l.toArray⟩ w hc (bad_of (by rw [el]; exact hd)) (by rw [zl]; omega)
        rw [← er] at this
        exact this.mono fun _ _ h => h.le (by rw [zl]; omega)
    simp only [numM]
    by_cases h1 : c = 43
    · rw [if_pos h1]; exact sign false (.inl h1) (by rw [h1]; rfl)
    rw [if_neg h1]
    by_cases h2 : c = 45
    · rw [if_pos h2]; exact sign true (.inr h2) (by rw [h2]; rfl)
    rw [if_neg h2]
    match hd : digM (c :: l) with
    | some x => exact parsez_plain r x w (digs_of (by rw [hl]; exact hd)) (by omega)
    | none =>
      refine parsez_badplain r w (fun h => ?_) (bad_of (by rw [hl]; exact hd)) (by omega)
      have e0 : r[0] = c := by rw [get_list r 0 h, hl]; rfl
      rw [e0]
      exact ⟨fun e => h1 (UInt8.toNat_inj.1 e), fun e => h2 (UInt8.toNat_inj.1 e)⟩

end Go.Proofs.YteipogfolnlblaaDoor
