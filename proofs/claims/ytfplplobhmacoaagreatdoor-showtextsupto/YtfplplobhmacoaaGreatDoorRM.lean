/-
  What is proved here: package read's quoted, at a text as it is written.
-/
import Derived.Test.YtfplplobhmacoaaGreatDoorRL
import Derived.Deep.RegionHeld3
namespace Go.Proofs.YtfplplobhmacoaaGreatDoor
open Go Go.RowKit

theorem byte_at (t : ByteArray) (A : Nat) (x : UInt8) (l : List UInt8) (h : t.data.toList.drop A = x :: l) : ∃ hh : A < t.size, t[A]'hh = x ∧ t.size - A = l.length + 1 := by
  have hz : t.size - A = l.length + 1 := by rw [← bytes_len, ← List.length_drop, h]; rfl
  have hA : A < t.size := by omega
  refine ⟨hA, ?_, hz⟩
  have e1 : t.data.toList[A]? = some x := by
    have := List.getElem?_drop (xs := t.data.toList) (i := A) (j := 0)
    rw [h] at this; simpa using this.symm
  have hh : A < t.data.toList.length := by rw [bytes_len]; exact hA
  rw [List.getElem?_eq_getElem hh] at e1
  simpa [ByteArray.getElem_eq_getElem_data] using e1

theorem tbW_ge (b : UInt8) : 1 ≤ (tbW b).length := by
  by_cases h : escB b
  · obtain ⟨l, e⟩ := tbW_esc h
    rw [e]; simp
  · rw [tbW_plain h]; simp
theorem tsW_app (a b : List UInt8) : tsW (a ++ b) = tsW a ++ tsW b := List.flatMap_append
theorem tsW_cons (b : UInt8) (l : List UInt8) : tsW (b :: l) = tbW b ++ tsW l := List.flatMap_cons
theorem tsW_ge : ∀ l : List UInt8, l.length ≤ (tsW l).length
  | [] => by simp
  | b :: l => by
    have h1 := tbW_ge b
    have h2 := tsW_ge l
    simp only [tsW, List.flatMap_cons, List.length_append, List.length_cons] at *
    omega

set_option maxHeartbeats 8000000 in
set_option maxRecDepth 100000 in
theorem quoted_any (w0 : World) (rb : Nat) (t : ByteArray) (a d : Nat) (p q k : Int) (l r : List UInt8) (w : World) (h : RS w0 rb t a d w) (ht : t.size ≤ 100000000) (hr : t.data.toList.drop a = tsW l ++ 34 :: r) :
    Calls Tryz.prog 20 #[.pointer (some ⟨rb, 0, none⟩), pc0 p q k] w fun e w' => e = .returned (pcV p ((a + (tsW l).length + 1 : Nat) : Int) 10 (.int .i64 4) (.int .i64 0) (.bool false) (.slice none 0 0) (.string ⟨l.toArray⟩) (.slice none 0 0) (.slice none 0 0) 0) ∧ RS w0 rb t (a + (tsW l).length + 1) d w' ∧ Kr rb w w' := by
  have u1 := up_alloc w (.cells #[.int .i64 p, .int .i64 q, .int .i64 k, .int .i64 0, .int .i64 0, .bool false, .slice none 0 0, .string ⟨#[]⟩, .slice none 0 0, .slice none 0 0, .int .i64 0] 44)
  have g1 := heap_alloc_new w (.cells #[.int .i64 p, .int .i64 q, .int .i64 k, .int .i64 0, .int .i64 0, .bool false, .slice none 0 0, .string ⟨#[]⟩, .slice none 0 0, .slice none 0 0, .int .i64 0] 44)
  have z1 : (w.alloc (.cells #[.int .i64 p, .int .i64 q, .int .i64 k, .int .i64 0, .int .i64 0, .bool false, .slice none 0 0, .string ⟨#[]⟩, .slice none 0 0, .slice none 0 0, .int .i64 0] 44)).heap.size = w.heap.size + 1 := World.size_alloc _ _
  obtain ⟨W1, hW1⟩ : ∃ W1, W1 = w.alloc (.cells #[.int .i64 p, .int .i64 q, .int .i64 k, .int .i64 0, .int .i64 0, .bool false, .slice none 0 0, .string ⟨#[]⟩, .slice none 0 0, .slice none 0 0, .int .i64 0] 44) := ⟨_, rfl⟩
  rw [← hW1] at u1 g1 z1
  have u2 := up_alloc W1 zer11
  have g2 : (W1.alloc zer11).heap[w.heap.size + 1]? = some zer11 := by rw [← z1]; exact heap_alloc_new W1 zer11
  have g1' := u2.old g1
  obtain ⟨W2, hW2⟩ : ∃ W2, W2 = W1.alloc zer11 := ⟨_, rfl⟩
  rw [← hW2] at u2 g2 g1'
  have uB := u1.tr u2
  have hlt : rb < w.heap.size := h.lt
  have hs2 : w0.heap.size ≤ W2.heap.size := (h.up.tr uB).size
  have hlt2 : rb < W2.heap.size := Nat.lt_of_lt_of_le hlt uB.size
  have hA : RS w0 rb t a d W2 := ⟨h.up.tr uB, h.ge, uB.old h.cs⟩
  have hq0 : QS w0 W2 rb t a d (.slice none 0 0) [] W2 := ⟨hA, hlt2, hs2, Kr.refl _ _, World.ownsRow_nil _ _ _ _⟩
  have hsz : w0.heap.size ≤ w.heap.size := h.up.size
  have hll := tsW_ge l
  have hlz : (tsW l).length + 1 ≤ t.size - a := by rw [← bytes_len, ← List.length_drop, hr]; simp
  have HG := hide (And.intro g1' (And.intro g2 (And.intro uB (And.intro hlt hsz))))
  have HQ0 := hide hq0
  have HW2 := hide (show W2 = (w.alloc (.cells #[.int .i64 p, .int .i64 q, .int .i64 k, .int .i64 0, .int .i64 0, .bool false, .slice none 0 0, .string ⟨#[]⟩, .slice none 0 0, .slice none 0 0, .int .i64 0] 44)).alloc zer11 from by rw [hW2, hW1])
  have HR := hide hr
  unfold pc0 pcV
  unfold zer11 at HG HW2
  clear u1 g1 z1 hW1 u2 g2 g1' hW2 uB hA hq0 hs2 hlt2 h hr
  clear W1
  go_enter Tryz.func20, Tryz.ntmps20
  go_wp2_with fail
  rw [← HW2.out]
  go_loopw [5] (fun a5 wr => ∃ j : Nat, j ≤ l.length ∧ QS w0 W2 rb t (a + (tsW (l.take j)).length) d a5 (l.take j) wr) (fun a5 _ => l.length - slLen a5)
  case atStart => exact ⟨0, Nat.zero_le _, by simpa [tsW] using HQ0.out⟩
  case round =>
    obtain ⟨j, hj, hQ⟩ := hrel
    obtain ⟨ao, cap, rfl⟩ := hQ.shape
    have hcut : t.data.toList.drop (a + (tsW (l.take j)).length) = tsW (l.drop j) ++ 34 :: r := by
      have e1 : tsW l = tsW (l.take j) ++ tsW (l.drop j) := by rw [← tsW_app, List.take_append_drop]
      rw [← List.drop_drop, HR.out, e1, List.append_assoc, List.drop_left]
    obtain ⟨A, hA⟩ : ∃ A, A = a + (tsW (l.take j)).length := ⟨_, rfl⟩
    rw [← hA] at hQ hcut
    have c0 := cell_of_row _ rb 0 _ _ _ hQ.rs.cs
    have c1 := cell_of_row _ rb 1 _ _ _ hQ.rs.cs
    rw [show (#[.string t, .int .i64 (A : Int), .int .i64 (d : Int)] : Array Value)[0]? = some (.string t) from rfl] at c0
    rw [show (#[.string t, .int .i64 (A : Int), .int .i64 (d : Int)] : Array Value)[1]? = some (.int .i64 (A : Int)) from rfl] at c1
    have hjl : (l.take j).length = j := by rw [List.length_take]; omega
    have hAa : a ≤ A := by omega
    rcases Nat.lt_or_ge j l.length with hjl2 | hjl2
    · have eT := tsW_take l hjl2
      have eL : l.take (j + 1) = l.take j ++ [l[j]] := by rw [List.take_succ_eq_append_getElem hjl2]
      have eD : l.drop j = l[j] :: l.drop (j + 1) := List.drop_eq_getElem_cons hjl2
      rw [eD, tsW_cons, List.append_assoc] at hcut
      obtain ⟨b, hb⟩ : ∃ b, b = l[j] := ⟨_, rfl⟩
      rw [← hb] at eT eL hcut
      clear eD hb
      have eA : a + (tsW (l.take (j + 1))).length = A + (tbW b).length := by rw [eT, List.length_append, hA]; omega
      obtain ⟨S, hS⟩ : ∃ S, S = l.take j := ⟨_, rfl⟩
      rw [← hS] at hQ eL hjl ⊢
      have HL := hide (And.intro eA (And.intro eL hjl))
      have hSl : S.length ≤ 1000000 * 900 := by omega
      clear eT eL eA hA hS hjl
      have b256 : (b.toNat : Int) < 256 := by have := b.toNat_lt; omega
      have b0 : (0 : Int) ≤ (b.toNat : Int) := by omega
      by_cases hB : escB b
      · have KE := fun (W : World) (u : Up wr W) => esc_any w0 rb t A d b _ W (hQ.upw u).rs ht hB hcut
        obtain ⟨l2, el2⟩ := tbW_esc hB
        obtain ⟨hh, hx, -⟩ := byte_at t A 92 _ (by rw [hcut, el2]; rfl)
        have hAI : (A : Int) < (t.size : Int) := by omega
        unfold pcV at KE
        generalize tbW b = T at *
        have HE := hide KE
        have HQ := hide hQ
        clear KE hQ hcut el2 hB
        go_wp2_with fail
        go_region
        go_wp2_with fail
        go_region
        go_wp2_with (first
          | (go_at_call 34; refine (HE.out _ ((up_drew _).tr (up_drew _))).mono ?_; rintro e w2 ⟨rfl, h2, k2⟩; have H2 := hide ((HQ.out.upw ((up_drew _).tr (up_drew _))).more h2 k2); clear h2 k2)
          | (at_builtin; refine qs_app (l := [b]) (H2.out.upw (up_alloc _ _)) (by simp [Lib.byteCells]) (by simp) (by simp; omega) rfl _ _ rfl rfl _ _ (by simp) rfl ?_; intro g9 cap9 w9 h9))
        obtain ⟨eA, eL, ej⟩ := HL.out
        refine ⟨⟨j + 1, by omega, ?_⟩, ?_⟩
        · rw [eA, eL]; exact h9
        · simp only [slLen]; omega
      · have eT := tbW_plain hB
        rw [eT] at hcut
        obtain ⟨hh, hx, -⟩ := byte_at t A b _ (by rw [hcut]; rfl)
        have hAI : (A : Int) < (t.size : Int) := by omega
        have n34 : ¬ ((b.toNat : Int) = 34) := fun e => hB (.inl (.inl (UInt8.toNat_inj.1 (by show b.toNat = 34; omega))))
        have n92 : ¬ ((b.toNat : Int) = 92) := fun e => hB (.inl (.inr (UInt8.toNat_inj.1 (by show b.toNat = 92; omega))))
        have HQ := hide hQ
        have HT := hide eT
        clear hQ hcut hB eT
        go_wp2_with fail
        go_region
        go_wp2_with fail
        go_region
        go_wp2_with (at_builtin; refine qs_app (l := [b]) (HQ.out.upw ((up_drew _).tr (up_drew _))) (by simp [Lib.byteCells]) (by simp) (by simp; omega) rfl _ _ rfl rfl _ _ (by simp) rfl ?_; intro g9 cap9 w9 h9; have c9 := cell_of_row _ rb 1 _ _ _ h9.rs.cs; rw [show (#[.string t, .int .i64 (A : Int), .int .i64 (d : Int)] : Array Value)[1]? = some (.int .i64 (A : Int)) from rfl] at c9; have z9 := frozen_of_row _ rb 1 _ _ h9.rs.cs; have H9 := hide h9; clear h9)
        obtain ⟨eA, eL, ej⟩ := HL.out
        refine ⟨⟨j + 1, by omega, ?_⟩, ?_⟩
        · rw [eA, eL, HT.out]
          have h9 := H9.out
          have b9 := heap_setCell_same w9 rb 1 _ _ (.int .i64 ((A : Int) + 1)) h9.rs.cs
          have k9 : Kr rb w9 (w9.setCell ⟨rb, 1, none⟩ (.int .i64 ((A : Int) + 1))) := (Kr.refl rb w9).setCell _ _
          exact h9.more ⟨k9.up h9.rs.up h9.rs.ge, h9.rs.ge, by rw [b9]; simp⟩ k9
        · simp only [slLen]; omega
    · have hjj : j = l.length := by omega
      subst hjj
      rw [List.take_length] at hQ hA
      rw [List.drop_length, show tsW [] = [] from rfl, List.nil_append] at hcut
      obtain ⟨hh, hx, -⟩ := byte_at t A 34 _ hcut
      have hAI : (A : Int) < (t.size : Int) := by omega
      have HQ := hide hQ
      have z1 := frozen_of_row _ rb 1 _ _ hQ.rs.cs
      have HA := hide hA
      clear hcut hA hQ hj hjl hjl2
      go_wp2_with fail
      go_region
      go_wp2_with fail
      go_region
      go_wp2_with fail
      have h8 : QS w0 W2 rb t (A + 1) d (.slice ao l.length cap) l (wr.setCell ⟨rb, 1, none⟩ (.int .i64 ((A : Int) + 1))) := by
        have h7 := HQ.out
        have b7 := heap_setCell_same _ rb 1 _ _ (.int .i64 ((A : Int) + 1)) h7.rs.cs
        have k7 : Kr rb wr (wr.setCell ⟨rb, 1, none⟩ (.int .i64 ((A : Int) + 1))) := (Kr.refl rb _).setCell _ _
        exact h7.more ⟨k7.up h7.rs.up h7.rs.ge, h7.rs.ge, by rw [b7]; simp⟩ k7
      clear c0 c1 z1 HQ
      generalize wr.setCell ⟨rb, 1, none⟩ (.int .i64 ((A : Int) + 1)) = W8 at *
      have n1 : w.heap.size ≠ rb := Nat.ne_of_gt hlt
      have n2 : w.heap.size + 1 ≠ rb := by omega
      have hW2 : w.heap.size + 1 < W2.heap.size := (Array.getElem?_eq_some_iff.1 HG.out.2.1).1
      have KF : ∀ W W', Up W8 W → Kr (w.heap.size + 1) W W' → W'.cell? ⟨w.heap.size, 0, none⟩ = some (.int .i64 p) ∧ W'.cell? ⟨rb, 1, none⟩ = some (.int .i64 ((A : Int) + 1)) ∧ (convert 37 9 (.slice ao l.length cap)).run Tryz.prog W' = .ok (.string ⟨l.toArray⟩) W' := fun W W' u k => by
        have hW := h8.upw u
        obtain ⟨d0, -⟩ := cells11 (k.old (by omega) (hW.kr.old n1 HG.out.1))
        have c1 := cell_of_row _ rb 1 _ _ _ (k.old (by omega) hW.rs.cs)
        exact ⟨d0, by rw [c1]; simp, hW.conv_kr k hW2⟩
      have HF := hide KF
      have H8 := hide h8
      have KM := fun (W : World) => made_any p ((A : Int) + 1) 4 0 false ⟨l.toArray⟩ none none none 0 0 0 0 0 0 W
      unfold pcV at KM
      have HM := hide KM
      clear KM KF h8
      obtain ⟨k0, k1, k2⟩ := HF.out W8.drew.drew.drew _ (((up_drew _).tr (up_drew _)).tr (up_drew _)) (Kr.refl _ _)
      go_region_held3 (fun w' => w'.cell? ⟨w.heap.size, 0, none⟩ = some (.int .i64 p) ∧ w'.cell? ⟨rb, 1, none⟩ = some (.int .i64 ((A : Int) + 1)) ∧ (convert 37 9 (.slice ao l.length cap)).run Tryz.prog w' = .ok (.string ⟨l.toArray⟩) w') (first | (refine ⟨?_, ?_, ?_⟩ <;> with_reducible assumption) | exact HF.out _ _ HU5.out (sto11 HG5.out _ _ _ _ _ _ _ _ _ _ _).2)
        (first
          | (go_at_call 33; refine (HM.out _).mono ?_; rintro e w5 ⟨rfl, u5⟩; have U5 := (((up_drew W8).tr (up_drew _)).tr (up_drew _)).tr u5; obtain ⟨k0, k1, k2⟩ := HF.out w5 _ U5 (Kr.refl _ _); have g5 := (H8.out.upw U5).kr.old n2 HG.out.2.1; obtain ⟨f0, f1, f2, f3, f4, f5, f6, f7, f8, f9, f10⟩ := frozen11 g5; obtain ⟨d0, d1, d2, d3, d4, d5, d6, d7, d8, d9, d10⟩ := cells11 g5; have HU5 := hide U5; have HG5 := hide g5; clear u5 U5 g5))
      go_wp2_with fail
      obtain ⟨q1, q2⟩ := sto11 HG5.out (.int .i64 p) (.int .i64 ((A : Int) + 1)) (.int .i64 10) (.int .i64 4) (.int .i64 0) (.bool false) (.slice none 0 0) (.string ⟨l.toArray⟩) (.slice none 0 0) (.slice none 0 0) (.int .i64 0)
      clear f0 f1 f2 f3 f4 f5 f6 f7 f8 f9 f10 d0 d1 d2 d3 d4 d5 d6 d7 d8 d9 d10 k0 k1 k2
      generalize (((((((((((w5.setCell ⟨(w.heap.size + 1), 0, none⟩ (.int .i64 p)).setCell ⟨(w.heap.size + 1), 1, none⟩ (.int .i64 ((A : Int) + 1))).setCell ⟨(w.heap.size + 1), 2, none⟩ (.int .i64 10)).setCell ⟨(w.heap.size + 1), 3, none⟩ (.int .i64 4)).setCell ⟨(w.heap.size + 1), 4, none⟩ (.int .i64 0)).setCell ⟨(w.heap.size + 1), 5, none⟩ (.bool false)).setCell ⟨(w.heap.size + 1), 6, none⟩ (.slice none 0 0)).setCell ⟨(w.heap.size + 1), 7, none⟩ (.string ⟨l.toArray⟩)).setCell ⟨(w.heap.size + 1), 8, none⟩ (.slice none 0 0)).setCell ⟨(w.heap.size + 1), 9, none⟩ (.slice none 0 0)).setCell ⟨(w.heap.size + 1), 10, none⟩ (.int .i64 0)) = W6 at *
      obtain ⟨d0, d1, d2, d3, d4, d5, d6, d7, d8, d9, d10⟩ := cells11 q1
      refine bodyPost_ret (by simp [results, Tryz.results20, go_sem, d0, d1, d2, d3, d4, d5, d6, d7, d8, d9, d10]; rfl) rfl ?_
      have h5 := H8.out.upw HU5.out
      have eA : a + (tsW l).length + 1 = A + 1 := by rw [HA.out]
      rw [eA]
      refine ⟨by simp , ⟨q2.up h5.rs.up (by omega), h5.rs.ge, q2.old (by omega) h5.rs.cs⟩, Kr.join HG.out.2.2.1 h5.kr q2 (by omega)⟩

end Go.Proofs.YtfplplobhmacoaaGreatDoor
