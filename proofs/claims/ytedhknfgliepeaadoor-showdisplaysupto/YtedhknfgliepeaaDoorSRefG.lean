/-
  What is proved here: tandemref06's text of conditions; of any datum.
-/
import Derived.Test.YtedhknfgliepeaaDoorSRefF
namespace Go.Proofs.YtedhknfgliepeaaDoor
open Go Go.RowKit

theorem its_takeB {α : Type} (f : α → List UInt8) (l : List α) {k : Nat} (hk : k < l.length) : its f [32] (l.take (k + 1)) = its f [32] (l.take k) ++ [32] ++ f l[k] := by
  rw [List.take_succ_eq_append_getElem hk, its_snocB]
theorem its_lenB {w : World} {h : Nat} {I : List (Tr h)} {v : Value} (hr : RowD w (DatC w h) v I) (sh : Bool) (k : Nat) : (its (wr h sh) [32] (I.take k)).length ≤ 60 * (I.map (bk h)).sum + 1 := by
  have key : ∀ a ∈ I, (wr h sh a).length + 1 ≤ 60 * bk h a := fun a ha => by
    obtain ⟨i, hi, rfl⟩ := List.getElem_of_mem ha
    obtain ⟨ao, cap, rfl⟩ := hr.shape
    obtain ⟨-, b, off, -, cs, -, -, hc⟩ := hr.get hi
    exact wr_le h sh _ w cs hc
  have keyI : ∀ (l : List (Tr h)) (g : List UInt8), (∀ a ∈ l, (wr h sh a).length + 1 ≤ 60 * bk h a) → (its (wr h sh) g l).length ≤ g.length + 60 * (l.map (bk h)).sum := fun l => by
    induction l with
    | nil => intro g _; simp [its]
    | cons a l ih =>
      intro g hg
      have h1 := ih [32] (fun x hx => hg x (by simp [hx]))
      have h2 := hg a (by simp)
      simp only [its, List.length_append, List.map_cons, List.sum_cons, List.length_singleton] at *
      omega
  have h1 := keyI (I.take k) [32] (fun a ha => key a (List.mem_of_mem_take ha))
  have h2 : (I.map (bk h)).sum = ((I.take k).map (bk h)).sum + ((I.drop k).map (bk h)).sum := by
    rw [← List.sum_append, ← List.map_append, List.take_append_drop]
  rw [List.length_singleton] at h1
  omega
theorem cat_arr (t : ByteArray) (a : List UInt8) : (⟨a.toArray⟩ : ByteArray) ++ t = ⟨(a ++ t.data.toList).toArray⟩ := by
  apply ByteArray.ext
  simp [ByteArray.data_append]

set_option maxHeartbeats 8000000 in
set_option maxRecDepth 100000 in
theorem rt_cond {h : Nat} (hT : RTextOK h) (sh : Bool) (n : Int) (b : Bool) (L : List Nat) (t : ByteArray) (I R : List (Tr h)) (um ui ur : Value) (w : World) (hb : bk (h + 1) (10, n, b, L, t, I, R) ≤ 10000000)
    (hM : Sl .u32 w um L.length (fun i => L.getD i 0)) (hI : RowD w (DatC w h) ui I) (hR : RowD w (DatC w h) ur R) :
    Calls Tryd.prog 15 #[.agg #[.int .i64 10, .int .i64 n, .bool b, um, .string t, ui, ur], .bool sh] w fun e w' => e = .returned (.string ⟨(wr (h + 1) sh (10, n, b, L, t, I, R)).toArray⟩) ∧ Up w w' := by
  obtain ⟨aom, capm, rfl, -⟩ := id hM
  obtain ⟨aoi, capi, rfl⟩ := hI.shape
  obtain ⟨aor, capr, rfl⟩ := hR.shape
  have hbk : t.size ≤ 10000000 ∧ (I.map (bk h)).sum ≤ 10000000 := by simp only [bk] at hb; omega
  have htl := bytes_len t
  obtain ⟨W, hW⟩ : ∃ W, W = w.alloc (.cells #[.int .i64 10, .int .i64 n, .bool b, .slice aom L.length capm, .string t, .slice aoi I.length capi, .slice aor R.length capr] 27) := ⟨_, rfl⟩
  have uW : Up w W := by rw [hW]; exact up_alloc w _
  have bW : W.heap[w.heap.size]? = some (.cells #[.int .i64 10, .int .i64 n, .bool b, .slice aom L.length capm, .string t, .slice aoi I.length capi, .slice aor R.length capr] 27 (0, 0)) := by rw [hW]; exact heap_alloc_new w _
  obtain ⟨P, hP⟩ : ∃ P : List UInt8, P = [35, 60, 99, 111, 110, 100, 105, 116, 105, 111, 110, 32] ++ t.data.toList := ⟨_, rfl⟩
  have hPl : P.length ≤ 10000012 := by rw [hP, List.length_append, bytes_len]; simp; omega
  have e : wr (h + 1) sh (10, n, b, L, t, I, R) = P ++ its (wr h false) [32] I ++ [62] := by rw [hP]; simp [wr]
  rw [e]
  clear e
  have eP : (⟨#[35, 60, 99, 111, 110, 100, 105, 116, 105, 111, 110, 32]⟩ : ByteArray) ++ t = ⟨P.toArray⟩ := by rw [hP]; exact cat_arr t [35, 60, 99, 111, 110, 100, 105, 116, 105, 111, 110, 32]
  have hlen := fun k => its_lenB hI false k
  have hI1 := hI.upD uW
  have KT := fun (V : World) (u : Up W V) (i : Nat) (hi : i < I.length) (d0 d1 d2 d3 d4 d5 d6 : Value) (hd : DatC V h I[i] [d0, d1, d2, d3, d4, d5, d6]) => hT false I[i] d0 d1 d2 d3 d4 d5 d6 V hd (Nat.le_trans (mem_sum hi) hbk.2)
  have hIl : I.length ≤ 10000000 := Nat.le_trans (sum_ge (m := bk h) (l := I) (fun a _ => bk_one h a)) hbk.2
  generalize hF : wr h false = F at *
  clear hF
  have HI := hide hI1
  have HT := hide KT
  have HLN := hide (And.intro hlen hbk.2)
  have HUW := hide uW
  have HBW := hide bW
  have HW := hide hW
  have HEP := hide eP
  have zt : ¬ 9223372036854775807 < 12 + t.size := by omega
  clear KT hlen hI hI1 hR hM hT hb uW bW hW hbk htl hP eP
  go_enter Tryd.func15, Tryd.ntmps15
  go_wp2_with fail
  rw [← HW.out, HEP.out]
  clear zt
  go_loopw [5, 6] (fun a5 a6 w' => ∃ k : Nat, k ≤ I.length ∧ a6 = .int .i64 (k : Int) ∧ a5 = .string ⟨(P ++ its F [32] (I.take k)).toArray⟩ ∧ Up W w') (fun _ a6 _ => I.length - (intOf a6).toNat)
  case atStart => exact ⟨0, Nat.zero_le _, rfl, by simp [its], Up.refl _⟩
  case round =>
    obtain ⟨k, hk, rfl, rfl, hU⟩ := hrel
    have c5 := (cells7 (Up.old hU HBW.out)).2.2.2.2.2.1
    have HU := hide hU
    by_cases hlt : k < I.length
    · obtain ⟨ib, off, rfl, ik, im, ibb, jum, it, jui, jur, hdat, ⟨p1, p2, p3, rfl⟩, ⟨q1, q2, q3, rfl⟩, ⟨s1, s2, s3, rfl⟩, e0, e1, e2, e3, e4, e5, e6⟩ := row_cells HI.out hU hlt
      have K1 := HT.out wr hU k hlt _ _ _ _ _ _ _ (hdat.up hU)
      have hl1 := HLN.out.1 k
      have hl2 := HLN.out.1 (k + 1)
      have hbb := HLN.out.2
      have eT := its_takeB F I hlt
      have hkI : (k : Int) < (I.length : Int) := by omega
      obtain ⟨S, hS⟩ : ∃ S, S = P ++ its F [32] (I.take k) := ⟨_, rfl⟩
      obtain ⟨T, hTT⟩ : ∃ T, T = F I[k] := ⟨_, rfl⟩
      have l1 : S.length ≤ 700000000 := by rw [hS, List.length_append]; omega
      have l2 : T.length ≤ 700000000 := by rw [eT] at hl2; simp at hl2; rw [hTT]; omega
      have e7 : ((⟨S.toArray⟩ : ByteArray) ++ ⟨#[32]⟩) ++ ⟨T.toArray⟩ = ⟨(P ++ its F [32] (I.take (k + 1))).toArray⟩ := by
        have a1 := cat_bytes S [32]
        have a2 := cat_bytes (S ++ [32]) T
        rw [show (⟨#[32]⟩ : ByteArray) = ⟨([32] : List UInt8).toArray⟩ from rfl, a1, a2, eT, hS, hTT]
        simp
      rw [← hTT] at K1
      rw [← hS]
      have zS := size_arr S
      have zT := size_arr T
      have sz2 : ((⟨S.toArray⟩ : ByteArray) ++ ⟨#[32]⟩).size = S.length + 1 := by rw [ByteArray.size_append, zS]; rfl
      have HK1 := hide K1
      have HE := hide e7
      clear K1 hdat hU hS hTT hl1 hl2 hbb eT e7
      go_wp2_with (go_at_call 15; refine HK1.out.mono ?_; rintro e w3 ⟨rfl, u3⟩)
      refine ⟨⟨k + 1, by omega, by go_num, by rw [HE.out], HU.out.tr u3⟩, ?_⟩
      simp [intOf]
      omega
    · have hkK : k = I.length := by omega
      subst hkK
      have hl1 := HLN.out.1 I.length
      have hbb := HLN.out.2
      rw [List.take_length] at hl1 ⊢
      have hkI : ¬ ((I.length : Int) < (I.length : Int)) := by omega
      obtain ⟨S, hS⟩ : ∃ S, S = P ++ its F [32] I := ⟨_, rfl⟩
      have l1 : S.length ≤ 700000000 := by rw [hS, List.length_append]; omega
      rw [← hS]
      have zS := size_arr S
      have e7 : (⟨S.toArray⟩ : ByteArray) ++ ⟨#[62]⟩ = ⟨(P ++ (its F [32] I ++ [62])).toArray⟩ := by
        have a1 := cat_bytes S [62]
        rw [show (⟨#[62]⟩ : ByteArray) = ⟨([62] : List UInt8).toArray⟩ from rfl, a1, hS]
        simp
      have HE := hide e7
      clear hU hS hl1 hbb e7
      go_wp2
      go_ret
      exact ⟨congrArg (fun x => Ending.returned (Value.string x)) HE.out, HUW.out.tr HU.out⟩

theorem rtext_of {h : Nat} (hT : RTextOK h) : RTextOK (h + 1) := by
  rintro sh ⟨k, n, b, L, t, I, R⟩ c0 c1 c2 c3 c4 c5 c6 w hd hb
  obtain ⟨um, ui, ur, e, hn, hM, hL, hI, hR⟩ := hd
  simp at e
  obtain ⟨rfl, rfl, rfl, rfl, rfl, rfl, rfl⟩ := e
  have hMany := many_of hT
  by_cases k1 : k = 1
  · subst k1; exact rt_int hT hMany sh n b L t I R _ _ _ w hb hn hM hL hI hR
  by_cases k2 : k = 2
  · subst k2
    by_cases n1 : n = 1
    · exact rt_bool1 hT hMany sh n b L t I R _ _ _ w hb hn hM hL hI hR n1
    · exact rt_bool0 hT hMany sh n b L t I R _ _ _ w hb hn hM hL hI hR n1
  by_cases k3 : k = 3
  · subst k3
    cases sh
    · exact rt_charW hT hMany n b L t I R _ _ _ w hb hn hM hL hI hR
    · exact rt_charS hT hMany n b L t I R _ _ _ w hb hn hM hL hI hR
  by_cases k4 : k = 4
  · subst k4
    cases sh
    · exact rt_textW hT hMany n b L t I R _ _ _ w hb hn hM hL hI hR
    · exact rt_textS hT hMany n b L t I R _ _ _ w hb hn hM hL hI hR
  by_cases k5 : k = 5
  · subst k5; exact rt_sym hT hMany sh n b L t I R _ _ _ w hb hn hM hL hI hR
  by_cases k6 : k = 6
  · subst k6
    cases hRR : R with
    | nil => subst hRR; exact rt_list hT hMany sh n b L t I [] _ _ _ w hb hn hM hL hI hR rfl
    | cons r R' =>
      subst hRR
      cases hII : I with
      | nil => subst hII; exact rt_listR hT hMany sh n b L t [] (r :: R') _ _ _ w hb hM hI hR rfl ⟨r, R', rfl⟩
      | cons i I' => subst hII; exact rt_listD hT hMany sh n b L t (i :: I') (r :: R') _ _ _ w hb hM hI hR (by simp) ⟨r, R', rfl⟩
  by_cases k7 : k = 7
  · subst k7; exact rt_vec hT hMany sh n b L t I R _ _ _ w hb hn hM hL hI hR
  by_cases k9 : k = 9
  · subst k9; exact rt_proc hT hMany sh n b L t I R _ _ _ w hb hn hM hL hI hR
  by_cases k10 : k = 10
  · subst k10; exact rt_cond hT sh n b L t I R _ _ _ w hb hM hI hR
  · exact rt_void hT hMany sh k k1 k2 k3 k4 k5 k6 k7 k9 k10 n b L t I R _ _ _ w hb hn hM hL hI hR
theorem rtext_all : (h : Nat) → RTextOK h
  | 0 => fun _ d => nomatch d
  | h + 1 => rtext_of (rtext_all h)

end Go.Proofs.YtedhknfgliepeaaDoor
