/-
  What is proved here: the statement ValueLists' walk. the statement ValueLists' walk, of more than 100 numbers, and of any.
-/
import Derived.Test.YtenkidbimhmkbaaVLstM
import Derived.Test.YtenkidbimhmkbaaVAwake
namespace Go.Proofs.Ytenkidbimhmkbaa
open Go Go.RowKit

set_option maxRecDepth 20000 in
set_option maxHeartbeats 16000000 in
theorem valueLists_short (g : Nat → Int) (w : World) (ao : Option Addr) (l cap : Nat) (hs : l = 0 ∨ ∃ b off, ao = some ⟨b, off, none⟩ ∧ ∀ i, i < l → w.cell? ⟨b, off + i, none⟩ = some (.int .i64 (g i))) (hg : ∀ i, i < l → -9223372036854775808 ≤ g i ∧ g i ≤ 9223372036854775807) (hl : l ≤ 100) :
    Calls Try.prog 7 #[.slice ao l cap] w fun e w' => e = .returned (.bool true) ∧ Below w.heap.size w w' := by
  obtain ⟨iW, hiW, hz0, hz1, hz2⟩ := info_parts infoW
  have KN := vnew_ok 2000 w (by decide) (by decide)
  have hlne : ((l : Int) != (l : Int)) = false := by simp
  have hleq : ((l : Int) == (l : Int)) = true := by simp
  obtain ⟨n2, hn2⟩ : ∃ n2, n2 = 1 + 3 * l := ⟨_, rfl⟩
  obtain ⟨n3, hn3⟩ : ∃ n3, n3 = n2 + 1 + l + 0 := ⟨_, rfl⟩
  obtain ⟨vw, hvw⟩ : ∃ vw, vw = 4 * n2 := ⟨_, rfl⟩
  obtain ⟨f2, hf2⟩ : ∃ f2, f2 = chainF (fun _ => 0) 1 10 (fun k => listW g (l - 1 - k)) l := ⟨_, rfl⟩
  obtain ⟨t2, ht2⟩ : ∃ t2, t2 = chainSt (fun _ => false) 1 l := ⟨_, rfl⟩
  obtain ⟨f3, hf3⟩ : ∃ f3, f3 = tagF f2 n2 (hOf 2 l 0) (listW g) l := ⟨_, rfl⟩
  obtain ⟨t3, ht3⟩ : ∃ t3, t3 = also t2 n2 := ⟨_, rfl⟩
  have hfol : Follows f3 t3 (goU 1 l) (listW g) (fun k => intW (listW g k)) l := by
    rw [hf3, ht3, hf2, ht2]
    exact chain_follows ((chainAt_new _ _ _ _ _ l).later (olds_tag _ _ _ _ _ _) (by omega)) (by omega) (listW_lt g) (listW_one g)
  have hfld : Fields f3 t3 vw l (listW g) (fun k => intW (listW g k)) := by
    rw [hf3, ht3, hvw]
    exact vec_fields hl (listW_lt g) (listW_one g)
  have hvh : headOf f3 t3 vw = hOf 2 l 0 := by
    rw [hf3, ht3, hvw]
    exact vec_head
  have hvl : vw < 18446744073709551616 := by omega
  obtain ⟨x0, hx0⟩ : ∃ x0, x0 = chainE 1 10 l := ⟨_, rfl⟩
  have hu0 : goU 1 l 0 = x0 := by rw [hx0]; rfl
  have KL := fun (w1 : World) (sb hb : Nat) (X : Nat → Prop) (ao2 : Option Addr) (c2 b2 off2 : Nat) (h : St w w1 sb hb X 2000 1 (fun _ => 0) (fun _ => false)) (hW : WordsV w1 (.slice ao2 l c2) b2 off2 l (listW g)) (hX : ¬ X b2) => list_yes w1 sb hb X 2000 0 1 _ _ ao2 c2 b2 off2 l (listW g) h.H h.S h.sX hW hX (listW_lt g) (listW_may g _) (by omega)
  rw [← hx0, ← hn2, ← hf2, ← ht2] at KL
  have KV := fun (w1 : World) (sb hb : Nat) (X : Nat → Prop) (ao2 : Option Addr) (c2 b2 off2 : Nat) (h : St w w1 sb hb X 2000 n2 f2 t2) (hW : WordsV w1 (.slice ao2 l c2) b2 off2 l (listW g)) (hX : ¬ X b2) => vector_yes w1 sb hb X 2000 0 n2 f2 t2 ao2 c2 b2 off2 l (listW g) h.H h.S h.sX hW hX (listW_lt g) (listW_may g _) (by omega)
  rw [← hvw, ← hn3, ← hf3, ← ht3] at KV
  have KT := fun (w1 : World) (hb : Nat) (X : Nat → Prop) (h : HeapAt w1 hb X 2000 0 n3 f3 t3) => heapTagged_any w1 hb X 2000 0 n3 f3 t3 vw h hvl
  rw [hvh, hTag_of (by decide) (by omega)] at KT
  have KA := fun (w1 : World) (sb hb : Nat) (X : Nat → Prop) (h : St w w1 sb hb X 2000 n3 f3 t3) => take_chain w1 sb hb X 2000 0 n3 f3 t3 (goU 1 l) (listW g) _ l h.H h.S hfol hl (goU_end 1 l)
  rw [hu0] at KA
  have KB := fun (w1 : World) (sb hb : Nat) (X : Nat → Prop) (h : St w w1 sb hb X 2000 n3 f3 t3) => take_vector w1 sb hb X 2000 0 n3 f3 t3 vw (listW g) _ l h.H h.S hvl hvh hfld hl
  have KG0 := fun (w1 : World) (hb : Nat) (X : Nat → Prop) (k : Nat) (h : HeapAt w1 hb X 2000 0 n3 f3 t3) (hk : k < l) => get_field w1 hb X 2000 0 n3 f3 t3 (goU 1 l k) 0 (listW g k) h (hfol.lt k) (by rw [show hTag _ = 2 from shapeTag (hfol.pair k hk)]; decide) (hfol.car k hk)
  have KG1 := fun (w1 : World) (hb : Nat) (X : Nat → Prop) (k : Nat) (h : HeapAt w1 hb X 2000 0 n3 f3 t3) (hk : k < l) => get_field w1 hb X 2000 0 n3 f3 t3 (goU 1 l k) 1 (goU 1 l (k + 1)) h (hfol.lt k) (by rw [show hTag _ = 2 from shapeTag (hfol.pair k hk)]; decide) (hfol.cdr k hk)
  have KGV := fun (w1 : World) (hb : Nat) (X : Nat → Prop) (k : Nat) (h : HeapAt w1 hb X 2000 0 n3 f3 t3) (hk : k < l) => get_field w1 hb X 2000 0 n3 f3 t3 vw k (listW g k) h hvl (by rw [hvh, hTag_of (by decide) (by omega)]; exact hk) (hfld.at_ k hk)
  have hlI : ¬ (100 < (l : Int)) := by omega
  have HN := hide KN
  have HS := hide hs
  have HG := hide hg
  have HL := hide KL
  have HV := hide KV
  have HT := hide KT
  have HA := hide KA
  have HB := hide KB
  have HG0 := hide KG0
  have HG1 := hide KG1
  have HGV := hide KGV
  have HU0 := hide hu0
  have HGL := hide hfol.lt
  clear KN hs hg KL KV KT KA KB KG0 KG1 KGV hn2 hn3 hvw hf2 ht2 hf3 ht3 hfol hfld hvh hx0 hu0
  go_enter Try.func7, Try.ntmps7
  go_wp2_with (first
    | (go_at_call 15; refine HN.out.mono ?_; rintro e w1 ⟨sb, hb, X1, mb, rfl, S1, M1, B1, s1, m1, F1⟩; have HS1 : Hid (St w w1 sb hb X1 2000 1 (fun _ => 0) (fun _ => false)) := hide ⟨S1.H, S1.cells.1, S1.sX, B1, F1⟩; clear S1 M1 B1 s1 m1 F1))
  go_loopw [5, 6] (fun a5 a6 wr => ∃ k : Nat, k ≤ l ∧ a6 = .int .i64 (k : Int) ∧ Own .u64 22 wr w1.heap.size a5 k (listW g) ∧ Fr (fun _ => False) w1 wr) (fun _ a6 _ => l - (intOf a6).toNat)
  case atStart => exact ⟨0, Nat.zero_le _, rfl, .inl ⟨rfl, rfl⟩, Fr.refl _ _⟩
  case round =>
    obtain ⟨k, hk, rfl, hO, hF⟩ := hrel
    by_cases hlt : k < l
    · obtain ⟨b, off, hab, hca⟩ : ∃ b off, ao = some ⟨b, off, none⟩ ∧ ∀ i, i < l → w.cell? ⟨b, off + i, none⟩ = some (.int .i64 (g i)) := by
        rcases HS.out with e | e
        · omega
        · exact e
      subst hab
      have cx := ((Fr.trans HS1.out.F hF (fun _ _ e => e)).cell (o := off + k) (World.block_lt_of_cell? _ _ (hca k hlt)) (fun e => e)).trans (hca k hlt)
      obtain ⟨z, hz⟩ : ∃ z, z = (g k).tmod 100000 := ⟨_, rfl⟩
      have hzb : -100000 < z ∧ z < 100000 := by rw [hz]; exact tmod5_range _
      have KX := fun w1 => vfix_yes z w1 (by omega) (by omega)
      obtain ⟨y, hy⟩ : ∃ y, y = listW g k := ⟨_, rfl⟩
      have hfy : fixW z = (y : Int) := by rw [hy, hz]; exact listW_fix _ _
      rw [hfy] at KX
      have hzt : (g k).tmod 100000 = z := hz.symm
      obtain ⟨ao2, cap2, hv2⟩ := hO.shape
      subst hv2
      have hown := hO.row
      have hkI : (k : Int) < (l : Int) := by omega
      have hsz1 := hF.size
      have gk := HG.out k hlt
      generalize g k = gx at *
      have HO := hide hO
      have HF := hide hF
      have HY := hide hy
      have HKX := hide KX
      clear hca hO hF hy hz KX hfy
      go_wp2_with (first
        | (go_at_call 10; refine (HKX.out _).mono ?_; rintro e w3 ⟨rfl, hw⟩; replace hw := hw.symm; subst hw)
        | (at_builtin; refine wpList_append_lies _ rfl _ _ 35 rfl w1.heap.size 22 iW (.int .u64 0) 1 8 Try.underlying35 hiW hz0 hz1 hz2 rfl (by decide) _ k _ rfl (hown.alloc _) ⟨wr.heap.size, 0, none⟩ 1 1 [.int .u64 (y : Int)] rfl rfl (hcells_one _ _ _) (fun u hu => by simp at hu; subst hu; rfl) (by decide) (by unfold maxLen; omega) (by omega) (by simp; omega) (wr.heap.size + 1) (by simp) ?_; intro g9 cap9 w9 hown9 hgrow9 hat9 hlt9; have O9 := hide (Own.snocF hown9 HY.out.symm); have F9 := hide (grow_own HO.out HF.out hgrow9); clear hown9 hgrow9 hat9 hlt9))
      refine ⟨⟨k + 1, by omega, by go_num, O9.out, F9.out⟩, ?_⟩
      simp [intOf]
      omega
    · have hkl : k = l := by omega
      subst hkl
      obtain ⟨ao2, cap2, hv2⟩ := hO.shape
      subst hv2
      obtain ⟨b2, off2, hbl, hbX, hWV⟩ := words_of_own2 HS1.out hF hO (by omega)
      have hkI : ¬ ((k : Int) < (k : Int)) := by omega
      have HSr := hide (HS1.out.fr hF)
      have HWV := hide hWV
      clear hO hF hWV
      go_wp2_with (first
        | (go_at_call 31; refine (HL.out _ _ _ _ _ _ _ _ HSr.out HWV.out hbX).mono ?_; rintro e w2 ⟨rfl, X2, H2, G2, F2⟩; have HS2 := hide (HSr.out.turn H2 G2 F2); have HWV2 := hide (HWV.out.frS F2 hbX); have hbX2 : ¬ X2 b2 := G2.not hbX hbl; clear H2 G2 F2)
        | (go_at_call 32; refine (HV.out _ _ _ _ _ _ _ _ HS2.out HWV2.out hbX2).mono ?_; rintro e w3 ⟨rfl, X3, H3, G3, F3⟩; have HS3 := hide (HS2.out.turn H3 G3 F3); have HWV3 := hide (HWV2.out.frS F3 hbX2); have c03 := (HS2.out.turn H3 G3 F3).S; clear H3 G3 F3)
        | (go_at_call 34; refine (HT.out _ _ _ HS3.out.H).mono ?_; rintro e w4 ⟨rfl, q4, rfl⟩; have HS4 := hide (HS3.out.fr ((Fr.refl _ w3).drewN q4)); have HWV4 := hide (HWV3.out.frS ((Fr.refl (fun _ => False) w3).drewN q4) (fun e => e))))
      have hkz : (k : Nat) ≤ 100 := hl
      go_loopw [13, 14] (fun a13 a14 wq => ∃ j : Nat, j ≤ k ∧ a13 = .int .u64 (goU 1 k j : Int) ∧ a14 = .int .i64 (j : Int) ∧ Fr (fun _ => False) w3 wq) (fun _ a14 _ => k - (intOf a14).toNat)
      case atStart => exact ⟨0, Nat.zero_le _, by rw [HU0.out], rfl, (Fr.refl _ w3).drewN q4⟩
      case round =>
        obtain ⟨j, hj, rfl, rfl, hF⟩ := hrel
        have HSq := hide (HS3.out.fr hF)
        have c0q := (HS3.out.fr hF).S
        by_cases hlt2 : j < k
        · obtain ⟨hao, cw⟩ := (HWV3.out.frS hF (fun e => e)).at_ hlt2
          subst hao
          have KG := fun q => HG0.out (wr.drewN q) hb X3 j (HSq.out.H.drewN q) hlt2
          have KH := fun q => HGV.out (wr.drewN q) hb X3 j (HSq.out.H.drewN q) hlt2
          have KI := fun q => HG1.out (wr.drewN q) hb X3 j (HSq.out.H.drewN q) hlt2
          have hul := HGL.out j
          have hyl := listW_lt g j
          obtain ⟨y, hy⟩ : ∃ y, y = listW g j := ⟨_, rfl⟩
          obtain ⟨uj, huj⟩ : ∃ uj, uj = goU 1 k j := ⟨_, rfl⟩
          obtain ⟨um, hum⟩ : ∃ um, um = goU 1 k (j + 1) := ⟨_, rfl⟩
          rw [← hy] at KG KH cw hyl
          rw [← huj] at KG KI hul ⊢
          rw [← hum] at KI
          have hyy : ((y : Int) != (y : Int)) = false := by simp
          have hjI : (j : Int) < (k : Int) := by omega
          have HKG := hide KG
          have HKH := hide KH
          have HKI := hide KI
          have HF := hide hF
          have HUM := hide hum
          clear KG KH KI hF hy huj hum
          go_wp2_with (first
            | (go_at_call 35; have h6 : Nat := q6; clear h6; refine (HKI.out _).mono ?_; rintro e w7 ⟨rfl, q7, hq7⟩; replace hq7 : w7 = wr.drewN (q5 + q6 + q7) := (by rw [hq7]; simp); subst hq7)
            | (go_at_call_of 35 (Value.int .u64 (vw : Int)); refine (HKH.out _).mono ?_; rintro e w6 ⟨rfl, q6, hq6⟩; replace hq6 : w6 = wr.drewN (q5 + q6) := (by rw [hq6]; simp); subst hq6)
            | (go_at_call 35; refine (HKG.out 0).mono ?_; rintro e w5 ⟨rfl, q5, hq5⟩; replace hq5 : w5 = wr.drewN q5 := (by rw [hq5]; simp); subst hq5))
          refine ⟨⟨j + 1, by omega, by rw [HUM.out], by go_num, HF.out.drewN _⟩, ?_⟩
          simp [intOf]
          omega
        · have hjk : j = k := by omega
          subst hjk
          rw [goU_end]
          have hjI : ¬ ((j : Int) < (j : Int)) := by omega
          have HF := hide hF
          clear hF
          go_wp2_with (first
            | (go_at_call_of 36 (Value.int .u64 (vw : Int)); refine (HB.out _ _ _ _ HS7.out).mono ?_; rintro e w8 ⟨v8, rfl, I8, F8⟩; obtain ⟨a8, cap8, rfl⟩ := I8.shape; have F8a : Fr (fun _ => False) (w7.alloc (.cells #[.int .i64 6, .int .i64 0, .bool false, .slice none 0 0, .string ⟨#[]⟩, .slice a7 j cap7, .slice none 0 0] 73)) (w8.alloc (.cells #[.int .i64 7, .int .i64 0, .bool false, .slice none 0 0, .string ⟨#[]⟩, .slice a8 j cap8, .slice none 0 0] 73)) := F8.alloc _; have b7 : (w8.alloc (.cells #[.int .i64 7, .int .i64 0, .bool false, .slice none 0 0, .string ⟨#[]⟩, .slice a8 j cap8, .slice none 0 0] 73)).heap[w7.heap.size]? = some (.cells #[.int .i64 6, .int .i64 0, .bool false, .slice none 0 0, .string ⟨#[]⟩, .slice a7 j cap7, .slice none 0 0] 73 (0, 0)) := (F8a.block _ (by simp) (fun e => e)).trans (heap_alloc_new w7 _); have b8 : (w8.alloc (.cells #[.int .i64 7, .int .i64 0, .bool false, .slice none 0 0, .string ⟨#[]⟩, .slice a8 j cap8, .slice none 0 0] 73)).heap[w8.heap.size]? = some (.cells #[.int .i64 7, .int .i64 0, .bool false, .slice none 0 0, .string ⟨#[]⟩, .slice a8 j cap8, .slice none 0 0] 73 (0, 0)) := heap_alloc_new w8 _; have g0 := (cells7 b7).1; have g5 := (cells7 b7).2.2.2.2.2.1; have k0 := (cells7 b8).1; have k5 := (cells7 b8).2.2.2.2.2.1; have HF8 := hide (Fr.trans ((Fr.refl (fun _ => False) w7).alloc (.cells #[.int .i64 6, .int .i64 0, .bool false, .slice none 0 0, .string ⟨#[]⟩, .slice a7 j cap7, .slice none 0 0] 73)) F8a (fun _ _ e => e)); have HI8 := hide (I8.fr ((Fr.refl (fun _ => False) w8).alloc (.cells #[.int .i64 7, .int .i64 0, .bool false, .slice none 0 0, .string ⟨#[]⟩, .slice a8 j cap8, .slice none 0 0] 73)) (fun _ _ e => e)); have HB7 := hide b7; have HB8 := hide b8; have HS8 := hide (HS7.out.fr F8a); clear I8 F8 F8a b7 b8)
            | (go_at_call 36; refine (HA.out _ _ _ _ HSq.out).mono ?_; rintro e w7 ⟨v7, rfl, I7, F7⟩; obtain ⟨a7, cap7, rfl⟩ := I7.shape; have HI7 := hide I7; have HS7 := hide ((HSq.out.fr F7).fr ((Fr.refl _ w7).alloc (.cells #[.int .i64 6, .int .i64 0, .bool false, .slice none 0 0, .string ⟨#[]⟩, .slice a7 j cap7, .slice none 0 0] 73))); clear I7 F7)
            | (go_at_call 37; refine (sameAll_z _ _ _ _ _ j _ (HI7.out.fr HF8.out (fun _ _ e => e)) HI8.out hl).mono ?_; rintro e w9 ⟨rfl, F9⟩; have h0 := (cells7 ((F9.block _ (Array.getElem?_eq_some_iff.1 HB7.out).1 (fun e => e)).trans HB7.out)).1; have h1 := (cells7 ((F9.block _ (Array.getElem?_eq_some_iff.1 HB8.out).1 (fun e => e)).trans HB8.out)).1; have HS9 := hide (HS8.out.fr F9); clear F9)
            | (go_at_call 14; refine (vawake_any _).mono ?_; rintro e wa ⟨rfl, Fa⟩))
          go_ret
          exact ⟨rfl, (Fr.trans HS9.out.F Fa (fun _ _ e => e)).below (Nat.le_refl _) (fun _ _ e => e)⟩

set_option maxRecDepth 20000 in
set_option maxHeartbeats 16000000 in
theorem valueLists_long (g : Nat → Int) (w : World) (b off L cap : Nat) (hs : ∀ i, i < 100 → w.cell? ⟨b, off + i, none⟩ = some (.int .i64 (g i))) (hg : ∀ i, i < 100 → -9223372036854775808 ≤ g i ∧ g i ≤ 9223372036854775807) (hL : 100 < L) (hLc : L ≤ cap) :
    Calls Try.prog 7 #[.slice (some ⟨b, off, none⟩) L cap] w fun e w' => e = .returned (.bool true) ∧ Below w.heap.size w w' := by
  have hl : 100 ≤ 100 := Nat.le_refl _
  obtain ⟨iW, hiW, hz0, hz1, hz2⟩ := info_parts infoW
  have KN := vnew_ok 2000 w (by decide) (by decide)
  have hlne : ((100 : Int) != (100 : Int)) = false := by simp
  have hleq : ((100 : Int) == (100 : Int)) = true := by simp
  obtain ⟨n2, hn2⟩ : ∃ n2, n2 = 1 + 3 * 100 := ⟨_, rfl⟩
  obtain ⟨n3, hn3⟩ : ∃ n3, n3 = n2 + 1 + 100 + 0 := ⟨_, rfl⟩
  obtain ⟨vw, hvw⟩ : ∃ vw, vw = 4 * n2 := ⟨_, rfl⟩
  obtain ⟨f2, hf2⟩ : ∃ f2, f2 = chainF (fun _ => 0) 1 10 (fun k => listW g (100 - 1 - k)) 100 := ⟨_, rfl⟩
  obtain ⟨t2, ht2⟩ : ∃ t2, t2 = chainSt (fun _ => false) 1 100 := ⟨_, rfl⟩
  obtain ⟨f3, hf3⟩ : ∃ f3, f3 = tagF f2 n2 (hOf 2 100 0) (listW g) 100 := ⟨_, rfl⟩
  obtain ⟨t3, ht3⟩ : ∃ t3, t3 = also t2 n2 := ⟨_, rfl⟩
  have hfol : Follows f3 t3 (goU 1 100) (listW g) (fun k => intW (listW g k)) 100 := by
    rw [hf3, ht3, hf2, ht2]
    exact chain_follows ((chainAt_new _ _ _ _ _ 100).later (olds_tag _ _ _ _ _ _) (by omega)) (by omega) (listW_lt g) (listW_one g)
  have hfld : Fields f3 t3 vw 100 (listW g) (fun k => intW (listW g k)) := by
    rw [hf3, ht3, hvw]
    exact vec_fields hl (listW_lt g) (listW_one g)
  have hvh : headOf f3 t3 vw = hOf 2 100 0 := by
    rw [hf3, ht3, hvw]
    exact vec_head
  have hvl : vw < 18446744073709551616 := by omega
  obtain ⟨x0, hx0⟩ : ∃ x0, x0 = chainE 1 10 100 := ⟨_, rfl⟩
  have hu0 : goU 1 100 0 = x0 := by rw [hx0]; rfl
  have KL := fun (w1 : World) (sb hb : Nat) (X : Nat → Prop) (ao2 : Option Addr) (c2 b2 off2 : Nat) (h : St w w1 sb hb X 2000 1 (fun _ => 0) (fun _ => false)) (hW : WordsV w1 (.slice ao2 100 c2) b2 off2 100 (listW g)) (hX : ¬ X b2) => list_yes w1 sb hb X 2000 0 1 _ _ ao2 c2 b2 off2 100 (listW g) h.H h.S h.sX hW hX (listW_lt g) (listW_may g _) (by omega)
  rw [← hx0, ← hn2, ← hf2, ← ht2] at KL
  have KV := fun (w1 : World) (sb hb : Nat) (X : Nat → Prop) (ao2 : Option Addr) (c2 b2 off2 : Nat) (h : St w w1 sb hb X 2000 n2 f2 t2) (hW : WordsV w1 (.slice ao2 100 c2) b2 off2 100 (listW g)) (hX : ¬ X b2) => vector_yes w1 sb hb X 2000 0 n2 f2 t2 ao2 c2 b2 off2 100 (listW g) h.H h.S h.sX hW hX (listW_lt g) (listW_may g _) (by omega)
  rw [← hvw, ← hn3, ← hf3, ← ht3] at KV
  have KT := fun (w1 : World) (hb : Nat) (X : Nat → Prop) (h : HeapAt w1 hb X 2000 0 n3 f3 t3) => heapTagged_any w1 hb X 2000 0 n3 f3 t3 vw h hvl
  rw [hvh, hTag_of (by decide) (by omega)] at KT
  have KA := fun (w1 : World) (sb hb : Nat) (X : Nat → Prop) (h : St w w1 sb hb X 2000 n3 f3 t3) => take_chain w1 sb hb X 2000 0 n3 f3 t3 (goU 1 100) (listW g) _ 100 h.H h.S hfol hl (goU_end 1 100)
  rw [hu0] at KA
  have KB := fun (w1 : World) (sb hb : Nat) (X : Nat → Prop) (h : St w w1 sb hb X 2000 n3 f3 t3) => take_vector w1 sb hb X 2000 0 n3 f3 t3 vw (listW g) _ 100 h.H h.S hvl hvh hfld hl
  have KG0 := fun (w1 : World) (hb : Nat) (X : Nat → Prop) (k : Nat) (h : HeapAt w1 hb X 2000 0 n3 f3 t3) (hk : k < 100) => get_field w1 hb X 2000 0 n3 f3 t3 (goU 1 100 k) 0 (listW g k) h (hfol.lt k) (by rw [show hTag _ = 2 from shapeTag (hfol.pair k hk)]; decide) (hfol.car k hk)
  have KG1 := fun (w1 : World) (hb : Nat) (X : Nat → Prop) (k : Nat) (h : HeapAt w1 hb X 2000 0 n3 f3 t3) (hk : k < 100) => get_field w1 hb X 2000 0 n3 f3 t3 (goU 1 100 k) 1 (goU 1 100 (k + 1)) h (hfol.lt k) (by rw [show hTag _ = 2 from shapeTag (hfol.pair k hk)]; decide) (hfol.cdr k hk)
  have KGV := fun (w1 : World) (hb : Nat) (X : Nat → Prop) (k : Nat) (h : HeapAt w1 hb X 2000 0 n3 f3 t3) (hk : k < 100) => get_field w1 hb X 2000 0 n3 f3 t3 vw k (listW g k) h hvl (by rw [hvh, hTag_of (by decide) (by omega)]; exact hk) (hfld.at_ k hk)
  have hlI : (100 : Int) < (L : Int) := by omega
  have hcI : (100 : Int) ≤ (cap : Int) := by omega
  have HN := hide KN
  have HS := hide hs
  have HG := hide hg
  have HL := hide KL
  have HV := hide KV
  have HT := hide KT
  have HA := hide KA
  have HB := hide KB
  have HG0 := hide KG0
  have HG1 := hide KG1
  have HGV := hide KGV
  have HU0 := hide hu0
  have HGL := hide hfol.lt
  clear KN hs hg KL KV KT KA KB KG0 KG1 KGV hn2 hn3 hvw hf2 ht2 hf3 ht3 hfol hfld hvh hx0 hu0
  go_enter Try.func7, Try.ntmps7
  go_wp2_with (first
    | (go_at_call 15; refine HN.out.mono ?_; rintro e w1 ⟨sb, hb, X1, mb, rfl, S1, M1, B1, s1, m1, F1⟩; have HS1 : Hid (St w w1 sb hb X1 2000 1 (fun _ => 0) (fun _ => false)) := hide ⟨S1.H, S1.cells.1, S1.sX, B1, F1⟩; clear S1 M1 B1 s1 m1 F1))
  go_loopw [5, 6] (fun a5 a6 wr => ∃ k : Nat, k ≤ 100 ∧ a6 = .int .i64 (k : Int) ∧ Own .u64 22 wr w1.heap.size a5 k (listW g) ∧ Fr (fun _ => False) w1 wr) (fun _ a6 _ => 100 - (intOf a6).toNat)
  case atStart => exact ⟨0, Nat.zero_le _, rfl, .inl ⟨rfl, rfl⟩, Fr.refl _ _⟩
  case round =>
    obtain ⟨k, hk, rfl, hO, hF⟩ := hrel
    by_cases hlt : k < 100
    · have hca := HS.out
      have cx := ((Fr.trans HS1.out.F hF (fun _ _ e => e)).cell (o := off + k) (World.block_lt_of_cell? _ _ (hca k hlt)) (fun e => e)).trans (hca k hlt)
      obtain ⟨z, hz⟩ : ∃ z, z = (g k).tmod 100000 := ⟨_, rfl⟩
      have hzb : -100000 < z ∧ z < 100000 := by rw [hz]; exact tmod5_range _
      have KX := fun w1 => vfix_yes z w1 (by omega) (by omega)
      obtain ⟨y, hy⟩ : ∃ y, y = listW g k := ⟨_, rfl⟩
      have hfy : fixW z = (y : Int) := by rw [hy, hz]; exact listW_fix _ _
      rw [hfy] at KX
      have hzt : (g k).tmod 100000 = z := hz.symm
      obtain ⟨ao2, cap2, hv2⟩ := hO.shape
      subst hv2
      have hown := hO.row
      have hkI : (k : Int) < (100 : Int) := by omega
      have hsz1 := hF.size
      have gk := HG.out k hlt
      generalize g k = gx at *
      have HO := hide hO
      have HF := hide hF
      have HY := hide hy
      have HKX := hide KX
      clear hca hO hF hy hz KX hfy
      go_wp2_with (first
        | (go_at_call 10; refine (HKX.out _).mono ?_; rintro e w3 ⟨rfl, hw⟩; replace hw := hw.symm; subst hw)
        | (at_builtin; refine wpList_append_lies _ rfl _ _ 35 rfl w1.heap.size 22 iW (.int .u64 0) 1 8 Try.underlying35 hiW hz0 hz1 hz2 rfl (by decide) _ k _ rfl (hown.alloc _) ⟨wr.heap.size, 0, none⟩ 1 1 [.int .u64 (y : Int)] rfl rfl (hcells_one _ _ _) (fun u hu => by simp at hu; subst hu; rfl) (by decide) (by unfold maxLen; omega) (by omega) (by simp; omega) (wr.heap.size + 1) (by simp) ?_; intro g9 cap9 w9 hown9 hgrow9 hat9 hlt9; have O9 := hide (Own.snocF hown9 HY.out.symm); have F9 := hide (grow_own HO.out HF.out hgrow9); clear hown9 hgrow9 hat9 hlt9))
      refine ⟨⟨k + 1, by omega, by go_num, O9.out, F9.out⟩, ?_⟩
      simp [intOf]
      omega
    · have hkl : k = 100 := by omega
      subst hkl
      obtain ⟨ao2, cap2, hv2⟩ := hO.shape
      subst hv2
      obtain ⟨b2, off2, hbl, hbX, hWV⟩ := words_of_own2 HS1.out hF hO (by omega)
      have hkI : ¬ ((100 : Int) < (100 : Int)) := by omega
      have HSr := hide (HS1.out.fr hF)
      have HWV := hide hWV
      clear hO hF hWV
      go_wp2_with (first
        | (go_at_call 31; refine (HL.out _ _ _ _ _ _ _ _ HSr.out HWV.out hbX).mono ?_; rintro e w2 ⟨rfl, X2, H2, G2, F2⟩; have HS2 := hide (HSr.out.turn H2 G2 F2); have HWV2 := hide (HWV.out.frS F2 hbX); have hbX2 : ¬ X2 b2 := G2.not hbX hbl; clear H2 G2 F2)
        | (go_at_call 32; refine (HV.out _ _ _ _ _ _ _ _ HS2.out HWV2.out hbX2).mono ?_; rintro e w3 ⟨rfl, X3, H3, G3, F3⟩; have HS3 := hide (HS2.out.turn H3 G3 F3); have HWV3 := hide (HWV2.out.frS F3 hbX2); have c03 := (HS2.out.turn H3 G3 F3).S; clear H3 G3 F3)
        | (go_at_call 34; refine (HT.out _ _ _ HS3.out.H).mono ?_; rintro e w4 ⟨rfl, q4, rfl⟩; have HS4 := hide (HS3.out.fr ((Fr.refl _ w3).drewN q4)); have HWV4 := hide (HWV3.out.frS ((Fr.refl (fun _ => False) w3).drewN q4) (fun e => e))))
      have hkz : (100 : Nat) ≤ 100 := hl
      go_loopw [13, 14] (fun a13 a14 wq => ∃ j : Nat, j ≤ 100 ∧ a13 = .int .u64 (goU 1 100 j : Int) ∧ a14 = .int .i64 (j : Int) ∧ Fr (fun _ => False) w3 wq) (fun _ a14 _ => 100 - (intOf a14).toNat)
      case atStart => exact ⟨0, Nat.zero_le _, by rw [HU0.out], rfl, (Fr.refl _ w3).drewN q4⟩
      case round =>
        obtain ⟨j, hj, rfl, rfl, hF⟩ := hrel
        have HSq := hide (HS3.out.fr hF)
        have c0q := (HS3.out.fr hF).S
        by_cases hlt2 : j < 100
        · obtain ⟨hao, cw⟩ := (HWV3.out.frS hF (fun e => e)).at_ hlt2
          subst hao
          have KG := fun q => HG0.out (wr.drewN q) hb X3 j (HSq.out.H.drewN q) hlt2
          have KH := fun q => HGV.out (wr.drewN q) hb X3 j (HSq.out.H.drewN q) hlt2
          have KI := fun q => HG1.out (wr.drewN q) hb X3 j (HSq.out.H.drewN q) hlt2
          have hul := HGL.out j
          have hyl := listW_lt g j
          obtain ⟨y, hy⟩ : ∃ y, y = listW g j := ⟨_, rfl⟩
          obtain ⟨uj, huj⟩ : ∃ uj, uj = goU 1 100 j := ⟨_, rfl⟩
          obtain ⟨um, hum⟩ : ∃ um, um = goU 1 100 (j + 1) := ⟨_, rfl⟩
          rw [← hy] at KG KH cw hyl
          rw [← huj] at KG KI hul ⊢
          rw [← hum] at KI
          have hyy : ((y : Int) != (y : Int)) = false := by simp
          have hjI : (j : Int) < (100 : Int) := by omega
          have HKG := hide KG
          have HKH := hide KH
          have HKI := hide KI
          have HF := hide hF
          have HUM := hide hum
          clear KG KH KI hF hy huj hum
          go_wp2_with (first
            | (go_at_call 35; have h6 : Nat := q6; clear h6; refine (HKI.out _).mono ?_; rintro e w7 ⟨rfl, q7, hq7⟩; replace hq7 : w7 = wr.drewN (q5 + q6 + q7) := (by rw [hq7]; simp); subst hq7)
            | (go_at_call_of 35 (Value.int .u64 (vw : Int)); refine (HKH.out _).mono ?_; rintro e w6 ⟨rfl, q6, hq6⟩; replace hq6 : w6 = wr.drewN (q5 + q6) := (by rw [hq6]; simp); subst hq6)
            | (go_at_call 35; refine (HKG.out 0).mono ?_; rintro e w5 ⟨rfl, q5, hq5⟩; replace hq5 : w5 = wr.drewN q5 := (by rw [hq5]; simp); subst hq5))
          refine ⟨⟨j + 1, by omega, by rw [HUM.out], by go_num, HF.out.drewN _⟩, ?_⟩
          simp [intOf]
          omega
        · have hjk : j = 100 := by omega
          subst hjk
          rw [goU_end]
          have hjI : ¬ ((100 : Int) < (100 : Int)) := by omega
          have HF := hide hF
          clear hF
          go_wp2_with (first
            | (go_at_call_of 36 (Value.int .u64 (vw : Int)); refine (HB.out _ _ _ _ HS7.out).mono ?_; rintro e w8 ⟨v8, rfl, I8, F8⟩; obtain ⟨a8, cap8, rfl⟩ := I8.shape; have F8a : Fr (fun _ => False) (w7.alloc (.cells #[.int .i64 6, .int .i64 0, .bool false, .slice none 0 0, .string ⟨#[]⟩, .slice a7 100 cap7, .slice none 0 0] 73)) (w8.alloc (.cells #[.int .i64 7, .int .i64 0, .bool false, .slice none 0 0, .string ⟨#[]⟩, .slice a8 100 cap8, .slice none 0 0] 73)) := F8.alloc _; have b7 : (w8.alloc (.cells #[.int .i64 7, .int .i64 0, .bool false, .slice none 0 0, .string ⟨#[]⟩, .slice a8 100 cap8, .slice none 0 0] 73)).heap[w7.heap.size]? = some (.cells #[.int .i64 6, .int .i64 0, .bool false, .slice none 0 0, .string ⟨#[]⟩, .slice a7 100 cap7, .slice none 0 0] 73 (0, 0)) := (F8a.block _ (by simp) (fun e => e)).trans (heap_alloc_new w7 _); have b8 : (w8.alloc (.cells #[.int .i64 7, .int .i64 0, .bool false, .slice none 0 0, .string ⟨#[]⟩, .slice a8 100 cap8, .slice none 0 0] 73)).heap[w8.heap.size]? = some (.cells #[.int .i64 7, .int .i64 0, .bool false, .slice none 0 0, .string ⟨#[]⟩, .slice a8 100 cap8, .slice none 0 0] 73 (0, 0)) := heap_alloc_new w8 _; have g0 := (cells7 b7).1; have g5 := (cells7 b7).2.2.2.2.2.1; have k0 := (cells7 b8).1; have k5 := (cells7 b8).2.2.2.2.2.1; have HF8 := hide (Fr.trans ((Fr.refl (fun _ => False) w7).alloc (.cells #[.int .i64 6, .int .i64 0, .bool false, .slice none 0 0, .string ⟨#[]⟩, .slice a7 100 cap7, .slice none 0 0] 73)) F8a (fun _ _ e => e)); have HI8 := hide (I8.fr ((Fr.refl (fun _ => False) w8).alloc (.cells #[.int .i64 7, .int .i64 0, .bool false, .slice none 0 0, .string ⟨#[]⟩, .slice a8 100 cap8, .slice none 0 0] 73)) (fun _ _ e => e)); have HB7 := hide b7; have HB8 := hide b8; have HS8 := hide (HS7.out.fr F8a); clear I8 F8 F8a b7 b8)
            | (go_at_call 36; refine (HA.out _ _ _ _ HSq.out).mono ?_; rintro e w7 ⟨v7, rfl, I7, F7⟩; obtain ⟨a7, cap7, rfl⟩ := I7.shape; have HI7 := hide I7; have HS7 := hide ((HSq.out.fr F7).fr ((Fr.refl _ w7).alloc (.cells #[.int .i64 6, .int .i64 0, .bool false, .slice none 0 0, .string ⟨#[]⟩, .slice a7 100 cap7, .slice none 0 0] 73))); clear I7 F7)
            | (go_at_call 37; refine (sameAll_z _ _ _ _ _ 100 _ (HI7.out.fr HF8.out (fun _ _ e => e)) HI8.out hl).mono ?_; rintro e w9 ⟨rfl, F9⟩; have h0 := (cells7 ((F9.block _ (Array.getElem?_eq_some_iff.1 HB7.out).1 (fun e => e)).trans HB7.out)).1; have h1 := (cells7 ((F9.block _ (Array.getElem?_eq_some_iff.1 HB8.out).1 (fun e => e)).trans HB8.out)).1; have HS9 := hide (HS8.out.fr F9); clear F9)
            | (go_at_call 14; refine (vawake_any _).mono ?_; rintro e wa ⟨rfl, Fa⟩))
          go_ret
          exact ⟨rfl, (Fr.trans HS9.out.F Fa (fun _ _ e => e)).below (Nat.le_refl _) (fun _ _ e => e)⟩

theorem valueLists_walk (v : Value) (l : Nat) (g : Nat → Int) (w : World) (hs : SlI .i64 w v l g) (hg : ∀ i, i < l → -9223372036854775808 ≤ g i ∧ g i ≤ 9223372036854775807) (_hl : l ≤ 17592186044416) :
    Calls Try.prog 7 #[v] w fun e w' => e = .returned (.bool true) ∧ Below w.heap.size w w' := by
  obtain ⟨ao, cap, rfl, h1, h2, h3⟩ := hs
  by_cases h : l ≤ 100
  · exact valueLists_short g w ao l cap h3 hg h
  · rcases h3 with e | ⟨b, off, rfl, e⟩
    · omega
    · exact valueLists_long g w b off l cap (fun i hi => e i (by omega)) (fun i hi => hg i (by omega)) (by omega) h1

end Go.Proofs.Ytenkidbimhmkbaa
