/-
  What is proved here: the document's own cmp and sub on limbs of 16 bits.
-/
import Derived.Test.YtdiacbfdfoeemaaDoorRef2
import Derived.Test.YtdiacbfdfoeemaaDoorCmp
namespace Go.Proofs.YtdiacbfdfoeemaaDoor
open Go Go.RowKit

set_option maxRecDepth 4000 in
set_option maxHeartbeats 2000000 in
theorem rcmp_any (v u : Value) (n m : Nat) (f h : Nat → Nat) (w : World) (hv : Sl .i64 w v n f) (hu : Sl .i64 w u m h) (hf : ∀ i, i < n → f i < 65536) (hh : ∀ i, i < m → h i < 65536) (hn : n ≤ 1000000000000) (hm : m ≤ 1000000000000) :
    Calls Tryd.prog 87 #[v, u] w fun e w' => e = .returned (.int .i64 (cmpN (num 65536 f n) (num 65536 h m))) ∧ Below w.heap.size w w' := by
  go_enter Tryd.func87, Tryd.ntmps87
  go_wp2_with fail
  refine (rtrim_any _ n f _ hv (by omega)).mono ?_
  rintro e w1 ⟨p, v1, rfl, o1, b1, hp, zp, tp⟩
  go_wp2_with fail
  refine (rtrim_any _ m h _ (hu.below b1 (Nat.le_refl _)) (by omega)).mono ?_
  rintro e w2 ⟨q, v2, rfl, o2, b2, hq, zq, tq⟩
  have hsz1 := b1.size
  have B2 : Below w.heap.size w w2 := b1.trans (b2.mono hsz1)
  have e1 := num_tail (B := 65536) hp zp
  have e2 := num_tail (B := 65536) hq zq
  have cf : Can 65536 f p := ⟨fun i hi => hf i (by omega), tp⟩
  have ch : Can 65536 h q := ⟨fun i hi => hh i (by omega), tq⟩
  have HE1 := hide e1
  have HE2 := hide e2
  obtain ⟨ao, cap, ev, h1, h2, h0, h3⟩ := o1.sl.below b2 (Nat.le_refl _)
  obtain ⟨bo, capb, eu, g1, g2, g0, g3⟩ := o2.sl
  subst ev eu
  clear e1 e2 zp zq tp tq hf hh h0 g0 o1 o2 b1 b2 hv hu
  rcases Nat.lt_trichotomy p q with hpq | hpq | hpq
  · have hb : ((p : Int) != (q : Int)) = true := by rw [bne_iff_ne]; omega
    have HF := hide (can_lt (by decide) cf.1 ch hpq)
    clear cf ch
    go_wp2_with fail
    go_ret
    exact ⟨ret_int (by rw [unhide HE1, unhide HE2, cmpN_lt (unhide HF)]), B2⟩
  · subst hpq
    have hb : ((p : Int) != (p : Int)) = false := by simp
    go_wp2_with fail
    go_loopw [5] (fun t wr => ∃ j : Nat, j ≤ p ∧ t = .int .i64 ((j : Int) - 1) ∧ (∀ i, j ≤ i → i < p → f i = h i) ∧ Below w2.heap.size w2 wr) (fun t _ => (intOf t + 1).toNat)
    case atStart => exact ⟨p, Nat.le_refl _, rfl, fun i _ _ => by omega, Below.refl _ _⟩
    case round =>
      obtain ⟨j, hj, rfl, hsame, hbel⟩ := hrel
      have HSAME := hide hsame
      clear hsame
      by_cases hj0 : j = 0
      · subst hj0
        go_wp2_with fail
        go_ret
        refine ⟨ret_int ?_, B2.trans (hbel.mono B2.size)⟩
        rw [unhide HE1, unhide HE2, cmpN_eq (num_congr (fun i hi => unhide HSAME i (by omega) hi))]
      · rcases h3 with h3 | ⟨b, off, rfl, hc⟩
        · omega
        rcases g3 with g3 | ⟨b', off', rfl, hc'⟩
        · omega
        obtain ⟨i, rfl⟩ : ∃ i, j = i + 1 := ⟨j - 1, by omega⟩
        have hx := (hbel.cell (p := ⟨b, off + i, none⟩) (Rd.lt hc (by omega))).trans (hc i (by omega))
        have hy := (hbel.cell (p := ⟨b', off' + i, none⟩) (Rd.lt hc' (by omega))).trans (hc' i (by omega))
        have hi0 : (0 : Int) ≤ (i : Int) := by omega
        have hip : (i : Int) < (p : Int) := by omega
        have B3 := B2.trans (hbel.mono B2.size)
        clear hc hc'
        rw [show (((i + 1 : Nat) : Int) - 1) = (i : Int) from by omega]
        rcases Nat.lt_trichotomy (f i) (h i) with hlt | hlt | hlt
        · have HF := hide (num_less (B := 65536) cf.1 (show i < p by omega) hlt (fun i h1 h2 => unhide HSAME i (by omega) h2))
          clear cf ch
          generalize f i = x at *
          generalize h i = y at *
          go_wp2_with fail
          go_region
          all_goals go_wp2_with fail
          all_goals go_ret
          all_goals exact ⟨ret_int (by rw [unhide HE1, unhide HE2, cmpN_lt (unhide HF)]), by repeat (first | exact B3 | apply Below.drew)⟩
        · have HXY := hide hlt
          rw [← hlt] at hy
          clear hlt cf ch
          generalize f i = x at hx hy
          go_wp2_with fail
          go_region
          all_goals go_wp2_with fail
          all_goals go_region
          all_goals go_wp2_with fail
          all_goals go_roundw
          case rel => exact ⟨i, by omega, by go_num, fun i' h1 h2 => by
            by_cases e : i' = i
            · rw [e]; exact unhide HXY
            · exact unhide HSAME i' (by omega) h2, by repeat (first | exact hbel | apply Below.drew)⟩
          case measure => simp [intOf]
        · have HF := hide (num_less (B := 65536) ch.1 (show i < p by omega) hlt (fun i h1 h2 => (unhide HSAME i (by omega) h2).symm))
          clear cf ch
          generalize f i = x at *
          generalize h i = y at *
          go_wp2_with fail
          go_region
          all_goals go_wp2_with fail
          all_goals go_region
          all_goals go_wp2_with fail
          all_goals go_ret
          all_goals exact ⟨ret_int (by rw [unhide HE1, unhide HE2, cmpN_gt (unhide HF)]), by repeat (first | exact B3 | apply Below.drew)⟩
  · have hb : ((p : Int) != (q : Int)) = true := by rw [bne_iff_ne]; omega
    have HF := hide (can_lt (by decide) ch.1 cf hpq)
    clear cf ch
    go_wp2_with fail
    go_ret
    exact ⟨ret_int (by rw [unhide HE1, unhide HE2, cmpN_gt (unhide HF)]), B2⟩

end Go.Proofs.YtdiacbfdfoeemaaDoor
