/-
  What is proved here: tandemref06.Write; tandemlaw05.ReadBack.
-/
import Derived.Test.YteipogfolnlblaaUDA
import Derived.Test.YteipogfolnlblaaUI
import Derived.Test.YteipogfolnlblaaWAA
import Derived.Test.YteipogfolnlblaaVA4
namespace Go.Proofs.Yteipogfolnlblaa
open Go Go.RowKit

def wrF {h : Nat} (d : Tr (h + 1)) : List UInt8 := wr (h + 1) false d
set_option maxHeartbeats 4000000 in
set_option maxRecDepth 100000 in
theorem rwrite_any {h : Nat} (d : Tr (h + 1)) (k n : Int) (b : Bool) (m1 : Option Addr) (m2 m3 : Nat) (s : ByteArray) (i1 : Option Addr) (i2 i3 : Nat) (r1 : Option Addr) (r2 r3 : Nat) (w : World) (hd : DatC w (h + 1) d [.int .i64 k, .int .i64 n, .bool b, .slice m1 m2 m3, .string s, .slice i1 i2 i3, .slice r1 r2 r3]) (hb : bk (h + 1) d ≤ 10000000) :
    Calls Try.prog 17 #[.agg #[.int .i64 k, .int .i64 n, .bool b, .slice m1 m2 m3, .string s, .slice i1 i2 i3, .slice r1 r2 r3]] w fun e w' => e = .returned (.string ⟨(wrF d).toArray⟩) ∧ Up w w' := by
  have u1 := up_alloc w (.cells #[.int .i64 k, .int .i64 n, .bool b, .slice m1 m2 m3, .string s, .slice i1 i2 i3, .slice r1 r2 r3] 35)
  have K := rtext_all (h + 1) false d _ _ _ _ _ _ _ _ (hd.up u1) hb
  obtain ⟨c0, c1, c2, c3, c4, c5, c6⟩ := cells7 (heap_alloc_new w (.cells #[.int .i64 k, .int .i64 n, .bool b, .slice m1 m2 m3, .string s, .slice i1 i2 i3, .slice r1 r2 r3] 35))
  have HK := hide K
  have HU := hide u1
  clear K u1 hd
  go_enter Try.func17, Try.ntmps17
  go_wp2_with (go_at_call 25; refine HK.out.mono ?_; rintro e w2 ⟨rfl, u2⟩)
  go_ret
  exact ⟨rfl, HU.out.tr u2⟩

theorem catW_take {h : Nat} (J : List (Tr (h + 1))) {k : Nat} (hk : k < J.length) : catW (J.take (k + 1)) = catW (J.take k) ++ (wrF J[k] ++ [32]) := by
  unfold catW wrF
  rw [List.take_succ_eq_append_getElem hk, List.flatMap_append]
  simp
theorem sum_mem {α : Type} {m : α → Nat} : ∀ {l : List α} {x : α}, x ∈ l → m x ≤ (l.map m).sum
  | a :: l, x, h => by
    rw [List.map_cons, List.sum_cons]
    rcases List.mem_cons.1 h with rfl | h
    · omega
    · have := sum_mem (m := m) h
      omega
theorem catW_le {h : Nat} : ∀ (J : List (Tr (h + 1))), (∀ d ∈ J, (wr (h + 1) false d).length + 1 ≤ 60 * bk (h + 1) d) → (catW J).length ≤ 60 * (J.map (bk (h + 1))).sum
  | [], _ => by simp [catW]
  | d :: J, hJ => by
    have h1 := catW_le J (fun x hx => hJ x (by simp [hx]))
    have h2 := hJ d (by simp)
    unfold catW at h1 ⊢
    rw [List.flatMap_cons, List.length_append, List.length_append, List.length_singleton, List.map_cons, List.sum_cons]
    omega

theorem sum_take {α : Type} (m : α → Nat) (l : List α) (k : Nat) : ((l.take k).map m).sum ≤ (l.map m).sum := by
  have h2 : (l.map m).sum = ((l.take k).map m).sum + ((l.drop k).map m).sum := by
    rw [← List.sum_append, ← List.map_append, List.take_append_drop]
  omega
theorem row_wr {w : World} {h : Nat} {J : List (Tr (h + 1))} {v : Value} (hr : RowD w (DatC w (h + 1)) v J) (hs : (J.map (bk (h + 1))).sum ≤ 10000000) (k : Nat) : (catW (J.take k)).length ≤ 700000000 := by
  have key : ∀ d ∈ J, (wr (h + 1) false d).length + 1 ≤ 60 * bk (h + 1) d := fun d hd => by
    obtain ⟨i, hi, rfl⟩ := List.getElem_of_mem hd
    obtain ⟨ao, cap, rfl⟩ := hr.shape
    obtain ⟨-, b, off, -, cs, -, -, hc⟩ := hr.get hi
    exact wr_le (h + 1) false _ w cs hc
  have h1 := catW_le (J.take k) (fun d hd => key d (List.mem_of_mem_take hd))
  have h2 := sum_take (bk (h + 1)) J k
  omega
set_option maxHeartbeats 8000000 in
set_option maxRecDepth 100000 in
theorem back_walk (t : ByteArray) (h : Nat) (J : List (Tr (h + 1))) (w : World)
    (hA : Calls Try.prog 10 #[.string t] w fun e w' => Up w w' ∧ ∃ ao cap, e = .returned (.tuple #[.slice ao J.length cap, .int .i64 0, .int .i64 0]) ∧ RowD w' (DatC w' (h + 1)) (.slice ao J.length cap) J)
    (hsum : (J.map (bk (h + 1))).sum ≤ 10000000)
    (hF : ∀ W : World, (catW J).length ≤ 65536 → Calls Try.prog 10 #[.string ⟨(catW J).toArray⟩] W fun e w' => Up W w' ∧ ∃ ao cap, e = .returned (.tuple #[.slice ao J.length cap, .int .i64 0, .int .i64 0]) ∧ RowD w' (DatC w' (h + 1)) (.slice ao J.length cap) J)
    (hG : ∀ W : World, ¬ (catW J).length ≤ 65536 → Calls Try.prog 10 #[.string ⟨(catW J).toArray⟩] W fun e w' => Up W w' ∧ e = .returned (.tuple #[.slice none 0 0, .int .i64 0, .int .i64 2])) :
    Calls Try.prog 6 #[.string t] w fun e w' => e = .returned (.bool true) ∧ Up w w' := by
  have HA := hide hA
  have HB := hide (fun d (hd : d ∈ J) => Nat.le_trans (sum_mem (m := bk (h + 1)) hd) hsum)
  have HSM := hide hsum
  have HF := hide hF
  have HG := hide hG
  have KS := sameAll_all (h + 1)
  have HKS := hide KS
  have K2 := fun (W : World) => awake_any W
  have HK2 := hide K2
  clear hA hsum hF hG KS K2
  go_enter Try.func6, Try.ntmps6
  go_wp2_with (go_at_call 10; refine HA.out.mono ?_; rintro e w1 ⟨u1, ao, cap, rfl, r1⟩; have H1 := hide (And.intro u1 r1); clear u1 r1)
  have HLN := hide (row_wr H1.out.2 HSM.out)
  have hJl : J.length ≤ 9223372036854775807 := by
    obtain ⟨ao', cap', e, h1, h2, -⟩ := H1.out.2
    omega
  go_loopw [6, 7] (fun a6 a7 wr0 => ∃ k : Nat, k ≤ J.length ∧ a7 = .int .i64 (k : Int) ∧ a6 = .string ⟨(catW (J.take k)).toArray⟩ ∧ Up w1 wr0) (fun _ a7 _ => J.length - (intOf a7).toNat)
  case atStart => exact ⟨0, Nat.zero_le _, rfl, by simp [catW], Up.refl _⟩
  case round =>
    obtain ⟨k, hk, rfl, rfl, hup⟩ := hrel
    by_cases hlt : k < J.length
    · obtain ⟨b, off, rfl, c0, c1, c2, m1, m2, m3, c4, i1, i2, i3, r1, r2, r3, hd, e0, e1, e2, e3, e4, e5, e6⟩ := row_seven H1.out.2 hup hlt
      have K1 := rwrite_any J[k] _ _ _ _ _ _ _ _ _ _ _ _ _ _ hd (HB.out _ (List.getElem_mem hlt))
      have hl1 := HLN.out k
      have hl2 := HLN.out (k + 1)
      have eT := catW_take J hlt
      obtain ⟨S, hS⟩ : ∃ S, S = catW (J.take k) := ⟨_, rfl⟩
      obtain ⟨T, hT⟩ : ∃ T, T = wrF J[k] := ⟨_, rfl⟩
      rw [← hT] at K1
      have l2 : T.length ≤ 700000000 := by rw [eT] at hl2; rw [hT]; simp at hl2; omega
      have e7 : ((⟨S.toArray⟩ : ByteArray) ++ ⟨T.toArray⟩) ++ ⟨#[32]⟩ = ⟨(catW (J.take (k + 1))).toArray⟩ := by
        have a1 := cat_bytes S T
        have a2 := cat_bytes (S ++ T) [32]
        rw [show (⟨#[32]⟩ : ByteArray) = ⟨([32] : List UInt8).toArray⟩ from rfl, a1, a2, eT, hS, hT]
        simp
      rw [← hS] at hl1 ⊢
      have zS := size_arr S
      have zT := size_arr T
      have zA : ¬ 9223372036854775807 < S.length + T.length := by omega
      have zB : ¬ 9223372036854775807 < S.length + T.length + 1 := by omega
      have hkI : (k : Int) < (J.length : Int) := by omega
      have HK1 := hide K1
      have HE := hide e7
      have HUP := hide hup
      clear K1 hd hup hS hT hl2 eT e7
      go_wp2_with (go_at_call 17; refine HK1.out.mono ?_; rintro e w3 ⟨rfl, u3⟩)
      refine ⟨⟨k + 1, by omega, by go_num, by rw [HE.out], HUP.out.tr u3⟩, ?_⟩
      simp [intOf]
      omega
    · obtain rfl : k = J.length := by omega
      rw [List.take_length]
      have hkI : ¬ ((J.length : Int) < (J.length : Int)) := by omega
      have zS := size_arr (catW J)
      have HUP := hide hup
      by_cases hL : (catW J).length ≤ 65536
      · have hLI : ¬ ((65536 : Int) < ((catW J).length : Int)) := by omega
        have HK3 := hide (fun (W : World) => HF.out W hL)
        clear hup
        generalize (⟨(catW J).toArray⟩ : ByteArray) = Z at *
        go_wp2_with (first
          | (go_at_call 10; refine (HK3.out _).mono ?_; rintro e w3 ⟨u3, ao3, cap3, rfl, r3⟩; have H3 := hide (And.intro u3 r3); clear u3 r3)
          | (go_at_call 12; refine (HKS.out J _ _ _ (H1.out.2.upD (HUP.out.tr H3.out.1)) H3.out.2).mono ?_; rintro e w4 ⟨rfl, u4⟩; have HU4 := hide u4; clear u4)
          | (go_at_call 13; refine (HK2.out _).mono ?_; rintro e w5 ⟨rfl, u5⟩))
        go_ret
        exact ⟨rfl, (((H1.out.1.tr HUP.out).tr H3.out.1).tr HU4.out).tr u5⟩
      · have hLI : (65536 : Int) < ((catW J).length : Int) := by omega
        have HK3 := hide (fun (W : World) => HG.out W hL)
        clear hup
        generalize (⟨(catW J).toArray⟩ : ByteArray) = Z at *
        go_wp2_with (first
          | (go_at_call 10; refine (HK3.out _).mono ?_; rintro e w3 ⟨u3, rfl⟩; have H3 := hide u3; clear u3)
          | (go_at_call 13; refine (HK2.out _).mono ?_; rintro e w5 ⟨rfl, u5⟩))
        go_ret
        exact ⟨rfl, ((H1.out.1.tr HUP.out).tr H3.out).tr u5⟩

set_option maxHeartbeats 4000000 in
set_option maxRecDepth 100000 in
theorem back_bad (t : ByteArray) (x e0 : Int) (w : World) (he : ¬ (e0 = 0)) (hA : Calls Try.prog 10 #[.string t] w fun e w' => Up w w' ∧ e = .returned (.tuple #[.slice none 0 0, .int .i64 x, .int .i64 e0])) :
    Calls Try.prog 6 #[.string t] w fun e w' => e = .returned (.bool true) ∧ Up w w' := by
  have HA := hide hA
  have K2 := fun (W : World) => awake_any W
  have HK2 := hide K2
  clear hA K2
  go_enter Try.func6, Try.ntmps6
  go_wp2_with (first
    | (go_at_call 10; refine HA.out.mono ?_; rintro e w1 ⟨u1, rfl⟩; have H1 := hide u1; clear u1)
    | (go_at_call 13; refine (HK2.out _).mono ?_; rintro e w5 ⟨rfl, u5⟩))
  go_ret
  exact ⟨rfl, H1.out.tr u5⟩
theorem all_long3 (t : ByteArray) (w : World) (ht : 65536 < t.size) : Calls Try.prog 10 #[.string t] w fun e w' => Up w w' ∧ e = .returned (.tuple #[.slice none 0 0, .int .i64 0, .int .i64 2]) := by
  have hI : (65536 : Int) < (t.size : Int) := by omega
  go_enter Try.func10, Try.ntmps10
  go_wp2_with fail
  refine bodyPost_ret (by simp [results, Try.results10, go_sem]; rfl) rfl ?_
  exact ⟨Up.refl _, rfl⟩
theorem all_more3 (S : List UInt8) (I : List (Tr 101)) (W : World) (hS : S.length ≤ 65536) (he : ∃ f g, allR (rdM S f 100) g 0 [] = .inr I) : Calls Try.prog 10 #[.string ⟨S.toArray⟩] W fun e w' => Up W w' ∧ ∃ ao cap, e = .returned (.tuple #[.slice ao I.length cap, .int .i64 0, .int .i64 0]) ∧ RowD w' (DatC w' 101) (.slice ao I.length cap) I := by
  obtain ⟨f, g, e⟩ := he
  have ed : (⟨S.toArray⟩ : ByteArray).data.toList = S := rfl
  have h := all_fuel ⟨S.toArray⟩ (f + (3 * S.length + 4)) (g + (S.length + 1)) W (by rw [size_arr]; exact hS) (by rw [size_arr]; omega) (by rw [size_arr]; omega)
  rw [ed] at h
  exact all_good (allR_mono (by omega) g _ 0 I (Nat.zero_le _) (by omega) e) h
theorem readBack_any (t : ByteArray) (w : World) : Calls Try.prog 6 #[.string t] w fun e w' => e = .returned (.bool true) ∧ Up w w' := by
  by_cases hl : t.size ≤ 65536
  · have hlen : t.data.toList.length = t.size := bytes_len t
    have h := all_fuel t (3 * t.size + 4) (t.size + 1) w hl (Nat.le_refl _) (Nat.le_refl _)
    match hR : allR (rdM t.data.toList (3 * t.size + 4) 100) (t.size + 1) 0 [] with
    | .inl q =>
      have hq : q.er ≠ 0 := allR_er (by rw [hlen]; exact Nat.le_refl _) _ _ _ q (Nat.zero_le _) (by rw [hlen]; exact Nat.le_refl _) hR
      exact back_bad t (q.x : Int) (q.er : Int) w (by omega) (all_bad hR h)
    | .inr J =>
      have hbk := allR_bk _ _ _ (Nat.zero_le _) hR
      have hrb := allR_rb _ _ _ (Nat.zero_le _) hR
      exact back_walk t 100 J w (all_good hR h) (Nat.le_trans (Nat.le_trans (Nat.le_add_right _ _) hbk) (by rw [hlen]; omega)) (fun W hL => all_more3 _ J W hL (all_back (catW J) J 0 hrb (Nat.zero_le _) rfl)) (fun W hL => all_long3 _ W (by rw [size_arr]; omega))
  · exact back_bad t 0 2 w (by decide) (all_long3 t w (by omega))

theorem readBack_top (t : ByteArray) (w : World) (_ht : t.size ≤ 9223372036854775807) : Calls Try.prog 6 #[.string t] w fun e w' => e = .returned (.bool true) ∧ Up w w' := readBack_any t w

end Go.Proofs.Yteipogfolnlblaa
