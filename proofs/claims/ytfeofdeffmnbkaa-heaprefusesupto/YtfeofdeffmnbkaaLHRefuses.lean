/-
  What is proved here: HeapRefuses answers true for every script, every word and every two numbers, and turns nothing that was there.
-/
import Derived.Test.YtfeofdeffmnbkaaLHRefuses0
import Derived.Test.YtfeofdeffmnbkaaLHRefuses1
import Derived.Test.YtfeofdeffmnbkaaLHRefuses2
namespace Go.Proofs.Ytfeofdeffmnbkaa
open Go Go.RowKit

set_option maxRecDepth 20000 in
set_option maxHeartbeats 40000000 in
theorem heapRefuses_3 (x0 x3 : Int) (y : Nat) (ao : Option Addr) (N cap L : Nat) (w : World) (hs : OpsIn w ao N L) (hN : N ≤ 1048576) (hL : L ≤ 1048576) (hc : N ≤ cap) (h01 : -9223372036854775808 ≤ x0) (h02 : x0 ≤ 9223372036854775807) (hyl : y < 18446744073709551616) (hy : y % 4 = 3) :
    Calls Try.prog 7 #[.int .i64 x0, .slice ao N cap, .int .u64 (y : Int), .int .i64 x3] w fun e w' => e = .returned (.bool true) ∧ Below w.heap.size w w' := by
  have KG := grown_any (fun _ _ _ _ _ => True) x0 ao N cap L w (fun _ => ⟨trivial, fun _ _ _ _ _ _ _ _ _ _ _ _ _ _ _ _ _ _ _ => trivial⟩) hs hN hL ⟨h01, h02⟩ hc
  have HG := hide KG
  obtain ⟨y3, h3l, h34, hor⟩ := or3 y hyl
  have ht1 : (y : Int).tmod 4 = 3 := by rw [Int.tmod_eq_emod_of_nonneg (by omega)]; omega
  have ht2 : (y : Int) % 4 = 3 := by omega
  have HY := hide hy
  have H34 := hide h34
  clear KG hs h01 h02 hy h34
  go_enter Try.func7, Try.ntmps7
  go_wp2_with (first
    | (go_at_call 15; refine HG.out.mono ?_; rintro e w1 ⟨ob, hb, rb, sz, tm, n, f, st, m, o, rfl, hO, hF, htm1, htm2, hm, hs1, hs2, -⟩; obtain ⟨X, Y, vO, h, bX, bY, bo, bO⟩ := hO; have hN0 := h.onH; have c0 := hN0.c0; have HN0 := hide hN0; have HF1 := hide hF; have Hol := hide h.ol; have hml := h.ml; clear h hF HG hN0 bY bo bO)
    | (go_at_call 17; refine (words_any w1 hb X sz tm n f st HN0.out.H).mono ?_; rintro e w2 ⟨vw, rfl, Q2, F2⟩; have HN2 := hide (HN0.out.fr F2); have HF2 := hide (HF1.out.on F2.some); have hvX : Hid (∀ g, vw.ownBlock = some g → ¬ X g) := hide (fun g hg e => by have := Q2.ge hg; have := HN0.out.H.lt e; omega); have HV2 := hide Q2; clear F2 Q2 HF1 c0))
  obtain ⟨aoO, capO, rfl⟩ := HN2.out.O.shape
  obtain ⟨aoV, capV, rfl⟩ := HV2.out.shape
  have hgd := HN2.out.H.good
  have hnn : n ≤ 1048576 := Nat.le_trans hgd.2.2.1 hgd.2.2.2
  have HM3 : Hid (may st y3 = false) := hide (may_3 H34.out)
  have HM0 : Hid (may st 0 = false) := hide (may_zero hgd.1)
  clear hgd
  go_loopw [11] (fun a11 wr => ∃ (i : Nat) (fr : Nat → Nat), i ≤ m ∧ a11 = .int .i64 (i : Int) ∧ OnH wr ob hb X (.slice aoO m capO) sz tm n fr st m o ∧ (may st y = false → fr = f) ∧ Own .u64 33 wr w1.heap.size (.slice aoV n capV) n f ∧ Fr (fun k => w.heap.size ≤ k) w wr) (fun a11 _ => m - (intOf a11).toNat)
  case atStart => exact ⟨0, f, Nat.zero_le _, rfl, HN2.out, fun _ => rfl, HV2.out, HF2.out⟩
  case round =>
    obtain ⟨i, fr, hi, rfl, hN1, hfr, hV, hF⟩ := hrel
    clear HN2 HV2 HF2
    have c0 := hN1.c0
    have c2 := hN1.c2
    by_cases hlt : i < m
    · obtain ⟨gO, capO', eO, hcO1, hcO2, cO⟩ := hN1.O.rd hlt
      cases eO
      obtain ⟨p, hp⟩ : ∃ p, p = o i := ⟨_, rfl⟩
      have hpl : p < 18446744073709551616 := hp ▸ Hol.out i hlt
      rw [← hp] at cO
      obtain ⟨R, hR⟩ : ∃ R, hRaw (headOf fr st p) = R := ⟨_, rfl⟩
      have HRR := hide hR
      have HN := hide hN1
      have HV := hide hV
      have HF := hide hF
      have Hfr := hide hfr
      have hiI : (i : Int) < (m : Int) := by omega
      clear hp hN1 hV hF hfr hR
      cases ht : isPtr st y with
      | false =>
        have hmy : may st y = false := by unfold may; rw [ht]; simp; have := HY.out; omega
        have HT := hide (show isPtr st y = false from ht)
        have HNo : Hid (∀ w', HeapAt w' hb X sz tm n fr st → Calls Try.prog 30 #[.pointer (some ⟨hb, 0, none⟩), .int .u64 (p : Int), .int .i64 x3, .int .u64 (y : Int)] w' fun e w'' => e = .returned (.bool false) ∧ ∃ q, w'' = w'.drewN q) := hide fun w' h' => set_refuse w' hb X sz tm n fr st p x3 y h' hpl hyl hmy
        clear hmy ht
        go_wp2_with (go_at_call 29; refine (is_any _ hb X sz tm n _ st y HN.out.H hyl).mono ?_; rw [HT.out]; rintro e w3 ⟨rfl, hq⟩; replace HV := hide (HV.out.fr (drewFr hq) (fun _ _ e => e)); replace HF := hide (HF.out.on (drewFr hq).some); replace HN := hide (HN.out.idle hq); replace c0 := HN.out.c0; clear hq)
        dsimp only [List.append]
        have KRr : Hid (∀ w1, HeapAt w1 hb X sz tm n fr st → Calls Try.prog 26 #[.pointer (some ⟨hb, 0, none⟩), .int .u64 (p : Int)] w1 fun e w' => e = .returned (.int .i64 (R : Int)) ∧ ∃ q, w' = w1.drewN q) := hide fun w1 h1 => HRR.out ▸ heapRaws_any w1 hb X sz tm n fr st p h1 hpl
        go_big_quiet ((first
          | (go_at_call_of 30 (Value.int .u64 (y3 : Int)); exact Calls.quiet_of (set_refuse _ hb X sz tm n fr st p 0 y3 (HN.out.H.drewN _) hpl h3l HM3.out))
          | (go_at_call_of 30 (Value.int .u64 2); exact Calls.quiet_of (set_no _ hb X sz tm n fr st p (-1) 2 (HN.out.H.drewN _) hpl (by decide) (.inl (by decide))))
          | (go_at_call_of 30 (Value.int .u64 0); exact Calls.quiet_of (set_refuse _ hb X sz tm n fr st p 0 0 (HN.out.H.drewN _) hpl (by decide) HM0.out))
          | (go_at_call_of 30 (Value.int .u64 (y : Int)); exact Calls.quiet_of (HNo.out _ (HN.out.H.drewN _)))
          | (go_at_call 26; exact Calls.quiet_of (KRr.out _ (HN.out.H.drewN _)))
          | (go_at_call 31; exact Calls.quiet_of (setRaw_no _ hb X sz tm n fr st p (R : Int) 1 (HN.out.H.drewN _) hpl (.inr (by rw [HRR.out]; omega))))
          ))
        go_wp2
        refine ⟨⟨i + 1, fr, by omega, by go_num, HN.out.fr ((Fr.refl _ _).drewN _), Hfr.out, HV.out.fr (S := fun _ => False) ((Fr.refl _ _).drewN _) (fun _ _ e => e), HF.out.on (Fr.some ((Fr.refl _ _).drewN _))⟩, ?_⟩
        simp [intOf]
        omega
      | true =>
        have h4 := (isPtr_st ht).2
        have h5 := HY.out
        omega
    · have hkm : m = i := by omega
      subst hkm
      have HN := hide hN1
      have HV := hide hV
      have HF := hide hF
      have Hfr := hide hfr
      have hnn2 : ((n : Int) == (n : Int)) = true := by simp
      clear hN1 hV hF hfr
      cases ht : isPtr st y with
      | false =>
        have hmy : may st y = false := by unfold may; rw [ht]; simp; have := HY.out; omega
        have hff : fr = f := Hfr.out hmy
        subst hff
        have HT := hide (show isPtr st y = false from ht)
        clear hmy ht
        go_wp2_with (first
          | (go_at_call 17; refine (words_any _ hb X sz tm n fr st HN.out.H).mono ?_; rintro e w3 ⟨vz, rfl, Q3, F3⟩; replace HV := hide (HV.out.fr F3 (fun _ _ e => e)); replace HF := hide (HF.out.on F3.some); replace HN := hide (HN.out.fr F3); replace c0 := HN.out.c0; have HZ := hide Q3; obtain ⟨aoZ, capZ, rfl⟩ := Q3.shape; clear F3 Q3)
          | (go_at_call 29; refine (is_any _ hb X sz tm n _ st y HN.out.H hyl).mono ?_; rw [HT.out]; rintro e w4 ⟨rfl, hq⟩; replace HZ := hide (HZ.out.fr (drewFr hq) (fun _ _ e => e)); replace HV := hide (HV.out.fr (drewFr hq) (fun _ _ e => e)); replace HF := hide (HF.out.on (drewFr hq).some); replace HN := hide (HN.out.idle hq); replace c0 := HN.out.c0; clear hq)
          | (go_at_call 21; refine (sameW_any aoV aoZ n capV capZ fr _ HV.out.rdl HZ.out.rdl (by omega)).mono ?_; rintro e w6 ⟨rfl, F6⟩; replace HF := hide (HF.out.on F6.some); clear F6)
          | (go_at_call 12; refine (awake_any _).mono ?_; rintro e w5 ⟨rfl, F5⟩))
        go_ret
        exact ⟨rfl, (HF.out.on F5.some).below (Nat.le_refl _) (fun k hk e => by omega)⟩
      | true =>
        have HT := hide (show isPtr st y = true from ht)
        clear ht
        go_wp2_with (first
          | (go_at_call 17; refine (words_any _ hb X sz tm n fr st HN.out.H).mono ?_; rintro e w3 ⟨vz, rfl, Q3, F3⟩; replace HV := hide (HV.out.fr F3 (fun _ _ e => e)); replace HF := hide (HF.out.on F3.some); replace HN := hide (HN.out.fr F3); replace c0 := HN.out.c0; have HZ := hide Q3; obtain ⟨aoZ, capZ, rfl⟩ := Q3.shape; clear F3 Q3)
          | (go_at_call 29; refine (is_any _ hb X sz tm n _ st y HN.out.H hyl).mono ?_; rw [HT.out]; rintro e w4 ⟨rfl, hq⟩; replace HZ := hide (HZ.out.fr (drewFr hq) (fun _ _ e => e)); replace HV := hide (HV.out.fr (drewFr hq) (fun _ _ e => e)); replace HF := hide (HF.out.on (drewFr hq).some); replace HN := hide (HN.out.idle hq); replace c0 := HN.out.c0; clear hq)
          | (go_at_call 12; refine (awake_any _).mono ?_; rintro e w5 ⟨rfl, F5⟩))
        go_ret
        exact ⟨rfl, (HF.out.on F5.some).below (Nat.le_refl _) (fun k hk e => by omega)⟩

theorem heapRefuses_walk (x0 x2 x3 : Int) (ao : Option Addr) (N cap L : Nat) (w : World) (hs : OpsIn w ao N L) (hN : N ≤ 1048576) (hL : L ≤ 1048576) (hc : N ≤ cap) (h01 : -9223372036854775808 ≤ x0) (h02 : x0 ≤ 9223372036854775807) (h21 : 0 ≤ x2) (h22 : x2 ≤ 18446744073709551615) (_h31 : -9223372036854775808 ≤ x3) (_h32 : x3 ≤ 9223372036854775807) :
    Calls Try.prog 7 #[.int .i64 x0, .slice ao N cap, .int .u64 x2, .int .i64 x3] w fun e w' => e = .returned (.bool true) ∧ Below w.heap.size w w' := by
  obtain ⟨y, rfl⟩ : ∃ y : Nat, x2 = (y : Int) := ⟨x2.toNat, by omega⟩
  have hyl : y < 18446744073709551616 := by omega
  have h4 : y % 4 = 0 ∨ y % 4 = 1 ∨ y % 4 = 2 ∨ y % 4 = 3 := by omega
  rcases h4 with h4 | h4 | h4 | h4
  · exact heapRefuses_0 x0 x3 y ao N cap L w hs hN hL hc h01 h02 hyl h4
  · exact heapRefuses_1 x0 x3 y ao N cap L w hs hN hL hc h01 h02 hyl h4
  · exact heapRefuses_2 x0 x3 y ao N cap L w hs hN hL hc h01 h02 hyl h4
  · exact heapRefuses_3 x0 x3 y ao N cap L w hs hN hL hc h01 h02 hyl h4

end Go.Proofs.Ytfeofdeffmnbkaa
