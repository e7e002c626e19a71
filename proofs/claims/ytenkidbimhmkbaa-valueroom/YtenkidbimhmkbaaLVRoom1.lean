/-
  What is proved here: the statement ValueRoom's walks, where the maker is number 1.
-/
import Derived.Test.YtenkidbimhmkbaaVRm
namespace Go.Proofs.Ytenkidbimhmkbaa
open Go Go.RowKit

set_option maxRecDepth 20000 in
set_option maxHeartbeats 8000000 in
theorem valueRoom_1_yes (wd kd : Int) (ao : Option Addr) (l cap : Nat) (g : Nat → Int) (s : ByteArray) (w : World) (hs : SlI .i64 w (.slice ao l cap) l g) (hg : ∀ i, i < l → -9223372036854775808 ≤ g i ∧ g i ≤ 9223372036854775807) (hl : l ≤ 17592186044416) (_hsz : s.size ≤ 140737488351232) (hw1 : -9223372036854775808 ≤ wd) (hw2 : wd ≤ 9223372036854775807) (hk1 : -9223372036854775808 ≤ kd) (hk2 : kd ≤ 9223372036854775807) (m : Nat) (hm : m = (wd % ((60 : Nat) : Int)).toNat) (hk : (kd % ((4 : Nat) : Int)).toNat = 1) (hroom : 1 + 1 + l + 0 ≤ 4 + m) :
    Calls Try.prog 6 #[.int .i64 wd, .slice ao l cap, .string s, .int .i64 kd] w fun e w' => e = .returned (.bool true) ∧ Below w.heap.size w w' := by
  obtain ⟨iW, hiW, hz0, hz1, hz2⟩ := info_parts infoW
  have KP := fun w1 => place_any wd 60 w1 (by decide) (by decide) hw1 hw2
  rw [← hm] at KP
  have hm60 : m < 60 := by rw [hm]; omega
  have KP2 := fun w1 => place_any kd 4 w1 (by decide) (by decide) hk1 hk2
  rw [hk] at KP2
  have KN := vnew_ok (4 + m) w (by omega) (by omega)
  obtain ⟨nz, hnz⟩ : ∃ nz, nz = 4 + m := ⟨_, rfl⟩
  have hnzI : ((4 + m : Nat) : Int) = (nz : Int) := by rw [hnz]
  rw [hnzI, ← hnz] at KN
  have hnI : 4 + (m : Int) = (nz : Int) := by omega
  have hnzl : nz ≤ 64 := by omega
  obtain ⟨n6, hn6⟩ : ∃ n6, n6 = 1 + 1 + l + 0 := ⟨_, rfl⟩
  have hU : ((n6 : Int) == 1 + (1 + (l : Int))) = true := by rw [beq_iff_eq]; omega
  have hle : 1 + (1 + (l : Int)) ≤ (nz : Int) := by omega
  have HN6 := hide hn6
  clear hn6
  have HKP := hide KP
  have HKP2 := hide KP2
  have HS := hide hs
  have HG := hide hg
  clear hs hg KP KP2 hm hk hw1 hw2 hk1 hk2 hnz hnzI hm60
  go_enter Try.func6, Try.ntmps6
  go_wp2_with (first
    | (go_at_call 29; refine (HKP.out _).mono ?_; rintro e w0 ⟨rfl, hw⟩; replace hw := hw.symm; subst hw)
    | (go_at_call 15; refine KN.mono ?_; rintro e w1 ⟨sb, hb, X, mb, rfl, S1, M1, B1, s1, m1, F1⟩; have HS1 := hide (S1.sym M1 (fun _ => 0) (fun _ => ⟨#[]⟩)); have HX1 := hide (And.intro B1 (And.intro s1 m1)); have HF1 := hide F1; clear S1 M1 B1 s1 m1 F1 KN))
  go_loopw [12, 13] (fun a12 a13 wr => ∃ k : Nat, k ≤ l ∧ a13 = .int .i64 (k : Int) ∧ Own .u64 22 wr w1.heap.size a12 k (roomW g) ∧ Fr (fun _ => False) w1 wr) (fun _ a13 _ => l - (intOf a13).toNat)
  case atStart => exact ⟨0, Nat.zero_le _, rfl, .inl ⟨rfl, rfl⟩, Fr.refl _ _⟩
  case round =>
    obtain ⟨k, hk, rfl, hO, hF⟩ := hrel
    by_cases hlt : k < l
    · obtain ⟨b, off, hab, hca⟩ : ∃ b off, ao = some ⟨b, off, none⟩ ∧ ∀ i, i < l → w.cell? ⟨b, off + i, none⟩ = some (.int .i64 (g i)) := by
        obtain ⟨ao', cap', e1, _, _, e4⟩ := HS.out
        cases e1
        rcases e4 with e | e
        · omega
        · exact e
      subst hab
      have cx := ((Fr.trans HF1.out hF (fun _ _ e => e)).cell (o := off + k) (World.block_lt_of_cell? _ _ (hca k hlt)) (fun e => e)).trans (hca k hlt)
      obtain ⟨z, hz⟩ : ∃ z, z = (g k).tmod 1000 := ⟨_, rfl⟩
      have hzb : -1000 < z ∧ z < 1000 := by rw [hz]; exact tmod_range _
      have KX := fun w1 => vfix_yes z w1 (by omega) (by omega)
      obtain ⟨y, hy⟩ : ∃ y, y = roomW g k := ⟨_, rfl⟩
      have hfy : fixW z = (y : Int) := by rw [hy, hz]; exact roomW_fix _ _
      rw [hfy] at KX
      have hzt : (g k).tmod 1000 = z := hz.symm
      obtain ⟨ao2, cap2, hv2⟩ := hO.shape
      subst hv2
      have hown := hO.row
      have hkI : (k : Int) < (l : Int) := by omega
      have hsz1 := hF.size
      have gk := HG.out k hlt
      generalize g k = gx at *
      have HO := hide hO
      have HF := hide hF
      have HY := hide hy
      have HKX := hide KX
      clear hca hO hF hy hz KX hfy
      go_wp2_with (first
        | (go_at_call 10; refine (HKX.out _).mono ?_; rintro e w3 ⟨rfl, hw⟩; replace hw := hw.symm; subst hw)
        | (at_builtin; refine wpList_append_lies _ rfl _ _ 35 rfl w1.heap.size 22 iW (.int .u64 0) 1 8 Try.underlying35 hiW hz0 hz1 hz2 rfl (by decide) _ k _ rfl (hown.alloc _) ⟨wr.heap.size, 0, none⟩ 1 1 [.int .u64 (y : Int)] rfl rfl (hcells_one _ _ _) (fun u hu => by simp at hu; subst hu; rfl) (by decide) (by unfold maxLen; omega) (by omega) (by simp; omega) (wr.heap.size + 1) (by simp) ?_; intro g9 cap9 w9 hown9 hgrow9 hat9 hlt9; have O9 := hide (Own.snocF hown9 HY.out.symm); have F9 := hide (room_grow HO.out HF.out hgrow9); clear hown9 hgrow9 hat9 hlt9))
      refine ⟨⟨k + 1, by omega, by go_num, O9.out, F9.out⟩, ?_⟩
      simp [intOf]
      omega
    · have hkl : k = l := by omega
      subst hkl
      obtain ⟨ao2, cap2, hv2⟩ := hO.shape
      subst hv2
      obtain ⟨b2, off2, hbX, hWV⟩ := words_of_own hO HS1.out.S.H.lt hl
      have hkI : ¬ ((k : Int) < (k : Int)) := by omega
      have HSr := hide (HS1.out.fr hF (fun _ _ e => e))
      have HFr := hide (Fr.trans HF1.out hF (fun _ _ e => e))
      have c0 := HSr.out.S.cells.1
      have HWV := hide hWV
      clear hO hF hWV
      go_wp2_with (first
        | (go_at_call 30; refine (words_any _ hb X nz 0 1 _ _ HSr.out.S.H).mono ?_; rintro e w5 ⟨v5, rfl, O5, F5⟩; have HS5 := hide (HSr.out.frF F5); have c05 := HS5.out.S.cells.1; have HF5 := hide (Fr.trans HFr.out F5 (fun _ _ e => e)); have HWV5 := hide (HWV.out.fr F5); have HO5 := hide O5; obtain ⟨ao5, cap5, hv5⟩ := O5.shape; subst hv5; clear O5 F5)
        | (go_at_call 29; refine (HKP2.out _).mono ?_; rintro e w0 ⟨rfl, hw⟩; replace hw := hw.symm; subst hw)
        | (go_at_call 32; refine (vector_yes w5 sb hb X nz 0 1 _ _ ao2 cap2 b2 off2 k (roomW g) HS5.out.S.H c05 HS5.out.S.sX HWV5.out hbX (roomW_lt g) (roomW_may g _) (by omega)).mono ?_; rintro e w6 ⟨rfl, X6, H6, G6, F6⟩; have HF6 : Hid (Fr (fun _ => False) w w6) := hide (Fr.trans HF5.out F6 (fun j hj e => by have := HX1.out.1 j e; omega)); have HH6 := hide H6; rw [← HN6.out] at HH6; have c06 := (F6.cell (o := 0) (World.block_lt_of_cell? _ _ c05) HS5.out.S.sX).trans c05; clear H6 G6 F6)
        | (go_at_call 20; refine (used_any _ hb X6 nz 0 n6 _ _ HH6.out).mono ?_; rintro e w7 ⟨rfl, q7, rfl⟩)
        | (go_at_call 14; refine (vawake_any _).mono ?_; rintro e wa ⟨rfl, Fa⟩; have HFa := hide (Fr.trans (HF6.out.drewN q7) Fa (fun _ _ e => e)); clear Fa))
      go_ret
      exact ⟨rfl, HFa.out.below (Nat.le_refl _) (fun _ _ e => e)⟩

set_option maxRecDepth 20000 in
set_option maxHeartbeats 8000000 in
theorem valueRoom_1_no (wd kd : Int) (ao : Option Addr) (l cap : Nat) (g : Nat → Int) (s : ByteArray) (w : World) (hs : SlI .i64 w (.slice ao l cap) l g) (hg : ∀ i, i < l → -9223372036854775808 ≤ g i ∧ g i ≤ 9223372036854775807) (hl : l ≤ 17592186044416) (_hsz : s.size ≤ 140737488351232) (hw1 : -9223372036854775808 ≤ wd) (hw2 : wd ≤ 9223372036854775807) (hk1 : -9223372036854775808 ≤ kd) (hk2 : kd ≤ 9223372036854775807) (m : Nat) (hm : m = (wd % ((60 : Nat) : Int)).toNat) (hk : (kd % ((4 : Nat) : Int)).toNat = 1) (hroom : 4 + m < 1 + 1 + l + 0) :
    Calls Try.prog 6 #[.int .i64 wd, .slice ao l cap, .string s, .int .i64 kd] w fun e w' => e = .returned (.bool true) ∧ Below w.heap.size w w' := by
  obtain ⟨iW, hiW, hz0, hz1, hz2⟩ := info_parts infoW
  have KP := fun w1 => place_any wd 60 w1 (by decide) (by decide) hw1 hw2
  rw [← hm] at KP
  have hm60 : m < 60 := by rw [hm]; omega
  have KP2 := fun w1 => place_any kd 4 w1 (by decide) (by decide) hk1 hk2
  rw [hk] at KP2
  have KN := vnew_ok (4 + m) w (by omega) (by omega)
  obtain ⟨nz, hnz⟩ : ∃ nz, nz = 4 + m := ⟨_, rfl⟩
  have hnzI : ((4 + m : Nat) : Int) = (nz : Int) := by rw [hnz]
  rw [hnzI, ← hnz] at KN
  have hnI : 4 + (m : Int) = (nz : Int) := by omega
  have hnzl : nz ≤ 64 := by omega
  have hle : ¬ (1 + (1 + (l : Int)) ≤ (nz : Int)) := by omega
  have HKP := hide KP
  have HKP2 := hide KP2
  have HS := hide hs
  have HG := hide hg
  clear hs hg KP KP2 hm hk hw1 hw2 hk1 hk2 hnz hnzI hm60
  go_enter Try.func6, Try.ntmps6
  go_wp2_with (first
    | (go_at_call 29; refine (HKP.out _).mono ?_; rintro e w0 ⟨rfl, hw⟩; replace hw := hw.symm; subst hw)
    | (go_at_call 15; refine KN.mono ?_; rintro e w1 ⟨sb, hb, X, mb, rfl, S1, M1, B1, s1, m1, F1⟩; have HS1 := hide (S1.sym M1 (fun _ => 0) (fun _ => ⟨#[]⟩)); have HX1 := hide (And.intro B1 (And.intro s1 m1)); have HF1 := hide F1; clear S1 M1 B1 s1 m1 F1 KN))
  go_loopw [12, 13] (fun a12 a13 wr => ∃ k : Nat, k ≤ l ∧ a13 = .int .i64 (k : Int) ∧ Own .u64 22 wr w1.heap.size a12 k (roomW g) ∧ Fr (fun _ => False) w1 wr) (fun _ a13 _ => l - (intOf a13).toNat)
  case atStart => exact ⟨0, Nat.zero_le _, rfl, .inl ⟨rfl, rfl⟩, Fr.refl _ _⟩
  case round =>
    obtain ⟨k, hk, rfl, hO, hF⟩ := hrel
    by_cases hlt : k < l
    · obtain ⟨b, off, hab, hca⟩ : ∃ b off, ao = some ⟨b, off, none⟩ ∧ ∀ i, i < l → w.cell? ⟨b, off + i, none⟩ = some (.int .i64 (g i)) := by
        obtain ⟨ao', cap', e1, _, _, e4⟩ := HS.out
        cases e1
        rcases e4 with e | e
        · omega
        · exact e
      subst hab
      have cx := ((Fr.trans HF1.out hF (fun _ _ e => e)).cell (o := off + k) (World.block_lt_of_cell? _ _ (hca k hlt)) (fun e => e)).trans (hca k hlt)
      obtain ⟨z, hz⟩ : ∃ z, z = (g k).tmod 1000 := ⟨_, rfl⟩
      have hzb : -1000 < z ∧ z < 1000 := by rw [hz]; exact tmod_range _
      have KX := fun w1 => vfix_yes z w1 (by omega) (by omega)
      obtain ⟨y, hy⟩ : ∃ y, y = roomW g k := ⟨_, rfl⟩
      have hfy : fixW z = (y : Int) := by rw [hy, hz]; exact roomW_fix _ _
      rw [hfy] at KX
      have hzt : (g k).tmod 1000 = z := hz.symm
      obtain ⟨ao2, cap2, hv2⟩ := hO.shape
      subst hv2
      have hown := hO.row
      have hkI : (k : Int) < (l : Int) := by omega
      have hsz1 := hF.size
      have gk := HG.out k hlt
      generalize g k = gx at *
      have HO := hide hO
      have HF := hide hF
      have HY := hide hy
      have HKX := hide KX
      clear hca hO hF hy hz KX hfy
      go_wp2_with (first
        | (go_at_call 10; refine (HKX.out _).mono ?_; rintro e w3 ⟨rfl, hw⟩; replace hw := hw.symm; subst hw)
        | (at_builtin; refine wpList_append_lies _ rfl _ _ 35 rfl w1.heap.size 22 iW (.int .u64 0) 1 8 Try.underlying35 hiW hz0 hz1 hz2 rfl (by decide) _ k _ rfl (hown.alloc _) ⟨wr.heap.size, 0, none⟩ 1 1 [.int .u64 (y : Int)] rfl rfl (hcells_one _ _ _) (fun u hu => by simp at hu; subst hu; rfl) (by decide) (by unfold maxLen; omega) (by omega) (by simp; omega) (wr.heap.size + 1) (by simp) ?_; intro g9 cap9 w9 hown9 hgrow9 hat9 hlt9; have O9 := hide (Own.snocF hown9 HY.out.symm); have F9 := hide (room_grow HO.out HF.out hgrow9); clear hown9 hgrow9 hat9 hlt9))
      refine ⟨⟨k + 1, by omega, by go_num, O9.out, F9.out⟩, ?_⟩
      simp [intOf]
      omega
    · have hkl : k = l := by omega
      subst hkl
      obtain ⟨ao2, cap2, hv2⟩ := hO.shape
      subst hv2
      obtain ⟨b2, off2, hbX, hWV⟩ := words_of_own hO HS1.out.S.H.lt hl
      have hkI : ¬ ((k : Int) < (k : Int)) := by omega
      have HSr := hide (HS1.out.fr hF (fun _ _ e => e))
      have HFr := hide (Fr.trans HF1.out hF (fun _ _ e => e))
      have c0 := HSr.out.S.cells.1
      have HWV := hide hWV
      clear hO hF hWV
      go_wp2_with (first
        | (go_at_call 30; have HU5 := HS6; refine (words_any _ hb X nz 0 1 _ _ HS6.out.S.H).mono ?_; rintro e w8 ⟨v8, rfl, O8, F8⟩; obtain ⟨ao8, cap8, hv8⟩ := O8.shape; subst hv8; have KS := sameW_any ao8 ao5 1 cap8 cap5 (fun _ => 0) w8 (own_rd O8) (own_rd ((HO5.out.fr HF56.out (fun _ _ e => e)).fr F8 (fun _ _ e => e))) (by decide); have HKS := hide KS; have HF8 := hide (Fr.trans HF6.out F8 (fun _ _ e => e)); clear O8 F8 KS)
        | (go_at_call 30; refine (words_any _ hb X nz 0 1 _ _ HSr.out.S.H).mono ?_; rintro e w5 ⟨v5, rfl, O5, F5⟩; have HS5 := hide (HSr.out.frF F5); have c05 := HS5.out.S.cells.1; have HF5 := hide (Fr.trans HFr.out F5 (fun _ _ e => e)); have HWV5 := hide (HWV.out.fr F5); have HO5 := hide O5; obtain ⟨ao5, cap5, hv5⟩ := O5.shape; subst hv5; clear O5 F5)
        | (go_at_call 29; refine (HKP2.out _).mono ?_; rintro e w0 ⟨rfl, hw⟩; replace hw := hw.symm; subst hw)
        | (go_at_call 32; refine (vector_full w5 sb hb X nz 0 1 _ _ ao2 cap2 b2 off2 k (roomW g) HS5.out.S.H c05 HWV5.out hl (roomW_lt g) (roomW_may g _) (by omega)).mono ?_; rintro e w6 ⟨rfl, q6, rfl⟩; have HS6 := hide (HS5.out.drewN q6); have HF56 : Hid (Fr (fun _ => False) w5 (w5.drewN q6)) := hide ((Fr.refl _ w5).drewN q6); have HF6 := hide (HF5.out.drewN q6))
        | (go_at_call 33; refine HKS.out.mono ?_; rintro e w9 ⟨rfl, F9⟩; have HF9 := hide (Fr.trans HF8.out F9 (fun _ _ e => e)); clear F9)
        | (go_at_call 14; refine (vawake_any _).mono ?_; rintro e wa ⟨rfl, Fa⟩; have HFa := hide (Fr.trans HF9.out Fa (fun _ _ e => e)); clear Fa))
      go_ret
      exact ⟨rfl, HFa.out.below (Nat.le_refl _) (fun _ _ e => e)⟩

end Go.Proofs.Ytenkidbimhmkbaa
