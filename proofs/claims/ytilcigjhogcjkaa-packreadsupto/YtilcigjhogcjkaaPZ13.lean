/-
  What is proved here: what the document's reader reads is written as just the bytes that it read; so, where it is right, the strict reader reads it too. the document's reader of a program (tandemref10.Read), where its head is wrong. tandemref10's in, half. tandemref10.Right of any protos that lie there, given right of any datum. tandemref10's right where it says no at once. tandemref10's right where a number is too great, and of plain kinds.
-/
import Derived.Test.YtilcigjhogcjkaaPZ11
import Derived.Test.YtilcigjhogcjkaaPZ12
import Derived.Test.YtilcigjhogcjkaaPZ5
import Derived.Test.YtilcigjhogcjkaaPZ7
import Derived.Test.YtilcigjhogcjkaaPZ4
namespace Go.Proofs.Ytilcigjhogcjkaa
open Go Go.RowKit

theorem numB_flg : numB 0 = flgB false ∧ numB 1 = flgB true := ⟨by decide, by decide⟩

theorem lrDta_back {α : Type} {f : List Nat → Nat → Option (α × List Nat × Nat)} {enc : α → List Nat} {P : α → Prop} {c : α → Nat} (hf : BackP f enc P c) {l m : List Nat} {p q : Nat} {I : List α} (h8 : By8 l) (h : lrDta f l p = some (I, m, q)) : l = numB I.length ++ I.flatMap enc ++ m ∧ I.length ≤ 1099511627776 ∧ (∀ x, x ∈ I → P x) ∧ p = q + (I.map c).sum := by
  unfold lrDta at h
  split at h
  · cases h
  · rename_i n m1 h1
    have e1 := rdNum_back h8 h1
    have h81 : By8 m1 := by rw [e1] at h8; exact h8.right
    obtain ⟨e2, l2, p2, c2⟩ := rdRowP_back hf n m1 p I m q h81 h
    refine ⟨?_, ?_, p2, c2⟩
    · rw [e1, e2, l2, List.append_assoc]
    · rw [l2]
      exact rdNum_le h1

theorem lrRst_back {α : Type} {f : List Nat → Nat → Option (α × List Nat × Nat)} {enc : α → List Nat} {P : α → Prop} {c : α → Nat} (hf : BackP f enc P c) {l m : List Nat} {p q : Nat} {R : List α} (h8 : By8 l) (h : lrRst f l p = some (R, m, q)) : l = flgB (!R.isEmpty) ++ R.flatMap enc ++ m ∧ (∀ x, x ∈ R → P x) ∧ p = q + (R.map c).sum := by
  unfold lrRst at h
  split at h
  · cases h
  · rename_i n m1 h1
    have e1 := rdNum_back h8 h1
    have h81 : By8 m1 := by rw [e1] at h8; exact h8.right
    split at h
    · rename_i h0
      cases h
      subst h0
      refine ⟨?_, (fun x hx => by cases hx), by simp⟩
      rw [e1, numB_flg.1]
      simp
    · split at h
      · rename_i h0
        subst h0
        split at h
        · cases h
        · rename_i d k q' h2
          cases h
          obtain ⟨e2, p2, c2⟩ := hf m1 p d m q h81 h2
          refine ⟨?_, ?_, ?_⟩
          · rw [e1, e2, numB_flg.2]
            simp
          · intro y hy
            rw [List.mem_singleton] at hy
            subst hy
            exact p2
          · simp
            omega
      · cases h

theorem rdTxt_size {l m : List Nat} {t : ByteArray} (h : rdTxt l = some (t, m)) (h8 : By8 l) : t.size ≤ 1099511627776 := by
  unfold rdTxt at h
  split at h
  · cases h
  · rename_i n k hn
    cases h
    have a1 := rdNum_le (rdCnt_num hn)
    have h8k : By8 k := by
      rw [rdNum_back h8 (rdCnt_num hn)] at h8
      exact h8.right
    have h8t : By8 (k.take n) := fun x hx => h8k x (List.mem_of_mem_take hx)
    have hd := strL_data h8t
    have h2 := byL_len (strL (k.take n))
    rw [hd, List.length_take] at h2
    omega

theorem rdMag_size {l m : List Nat} {b : Bool} {L : List Nat} (h : rdMag l = some ((b, L), m)) (h8 : By8 l) : L.length ≤ 1099511627776 := by
  unfold rdMag at h
  split at h
  · cases h
  · rename_i b1 l1 h1
    have h81 : By8 l1 := by rw [rdFlag_back h1] at h8; exact h8.right
    split at h
    · cases h
    · rename_i n l2 h2
      have h82 : By8 l2 := by rw [(rdCnt_back h81 h2).1] at h81; exact h81.right
      split at h
      · cases h
      · rename_i xs m2 h3
        cases h
        obtain ⟨-, e, -⟩ := rdRow_back (fun l x m => rdLimb_back) n l2 L m h82 h3
        rw [e]
        exact rdNum_le (rdCnt_num h2)

theorem lrDat_back : ∀ (h dp : Nat), BackP (lrDat h dp) (datB h) (szD h) (ptsD h)
  | 0, dp => by
    intro l p x m q _ hx
    simp [lrDat] at hx
  | h + 1, 0 => by
    intro l p x m q _ hx
    simp [lrDat] at hx
  | h + 1, dp + 1 => by
    intro l p x m q h8 hx
    have ih := lrDat_back h dp
    simp only [lrDat] at hx
    split at hx
    · cases hx
    · rename_i hp
      split at hx
      · cases hx
      · rename_i k l1 hk
        have e1 := rdNum_back h8 hk
        have h81 : By8 l1 := by rw [e1] at h8; exact h8.right
        have nil8 : ∀ (x : Nat), x ∈ ([] : List Nat) → x < 4294967296 := fun x hx => by cases hx
        have nilT : ∀ (x : Tr h), x ∈ ([] : List (Tr h)) → szD h x := fun x hx => by cases hx
        have z0 : (ByteArray.mk #[]).size ≤ 1099511627776 := by decide
        unfold lrFld at hx
        split at hx
        · rename_i hk1
          subst hk1
          split at hx
          · cases hx
          · rename_i b L m2 hm
            cases hx
            have e2 := rdMag_back h81 hm
            refine ⟨?_, ⟨(rdMag_suf hm).2, rdMag_size hm h81, z0, by simp, nilT, nilT⟩, by simp [ptsD]; omega⟩
            rw [e1, e2]
            simp [datB]
        · rename_i hk1
          split at hx
          · rename_i hk2
            split at hx
            · cases hx
            · rename_i v m2 hm
              cases hx
              obtain ⟨e2, -⟩ := rdSgn_back h81 hm
              refine ⟨?_, ⟨nil8, by simp, z0, by simp, nilT, nilT⟩, by simp [ptsD]; omega⟩
              rw [e1, e2]
              rcases hk2 with rfl | rfl | rfl <;> simp [datB]
          · rename_i hk2
            split at hx
            · rename_i hk4
              subst hk4
              split at hx
              · cases hx
              · rename_i t m2 hm
                cases hx
                obtain ⟨e2, -⟩ := rdTxt_back h81 hm
                refine ⟨?_, ⟨nil8, by simp, rdTxt_size hm h81, by simp, nilT, nilT⟩, by simp [ptsD]; omega⟩
                rw [e1, e2]
                simp [datB]
            · rename_i hk4
              split at hx
              · rename_i hk5
                subst hk5
                split at hx
                · cases hx
                · rename_i t m2 hm
                  split at hx
                  · cases hx
                  · rename_i v m3 hm3
                    cases hx
                    obtain ⟨e2, -⟩ := rdTxt_back h81 hm
                    have h82 : By8 m2 := by rw [e2] at h81; exact h81.right
                    obtain ⟨e3, -⟩ := rdSgn_back h82 hm3
                    refine ⟨?_, ⟨nil8, by simp, rdTxt_size hm h81, by simp, nilT, nilT⟩, by simp [ptsD]; omega⟩
                    rw [e1, e2, e3]
                    simp [datB]
              · rename_i hk5
                split at hx
                · rename_i hk6
                  subst hk6
                  split at hx
                  · cases hx
                  · rename_i I m2 q2 hm
                    split at hx
                    · cases hx
                    · rename_i R m3 q3 hm3
                      cases hx
                      obtain ⟨e2, n2, g2, c2⟩ := lrDta_back ih h81 hm
                      have h82 : By8 m2 := by rw [e2] at h81; exact h81.right
                      obtain ⟨e3, g3, c3⟩ := lrRst_back ih h82 hm3
                      refine ⟨?_, ⟨nil8, by simp, z0, n2, g2, g3⟩, ?_⟩
                      · rw [e1, e2, e3]
                        simp [datB]
                      · simp only [ptsD]
                        omega
                · rename_i hk6
                  split at hx
                  · rename_i hk7
                    subst hk7
                    split at hx
                    · cases hx
                    · rename_i I m2 q2 hm
                      cases hx
                      obtain ⟨e2, n2, g2, c2⟩ := lrDta_back ih h81 hm
                      refine ⟨?_, ⟨nil8, by simp, z0, n2, g2, nilT⟩, ?_⟩
                      · rw [e1, e2]
                        simp [datB]
                      · simp only [ptsD, List.map_nil, List.sum_nil]
                        omega
                  · rename_i hk7
                    split at hx
                    · rename_i hk8
                      subst hk8
                      cases hx
                      refine ⟨?_, ⟨nil8, by simp, z0, by simp, nilT, nilT⟩, by simp [ptsD]; omega⟩
                      rw [e1]
                      simp [datB]
                    · cases hx

theorem lrPro_back (h : Nat) : BackP (lrPro h) proB szP (fun p => (p.ks.map (ptsD h)).sum) := by
  intro l p x m q h8 hx
  unfold lrPro at hx
  split at hx
  · cases hx
  · rename_i nm l1 h1
    obtain ⟨e1, -⟩ := rdTxt_back h8 h1
    have k1 : By8 l1 := by rw [e1] at h8; exact h8.right
    split at hx
    · cases hx
    · rename_i ar l2 h2
      have e2 := rdNum_back k1 h2
      have k2 : By8 l2 := by rw [e2] at k1; exact k1.right
      split at hx
      · cases hx
      · rename_i rs l3 h3
        have e3 := rdFlag_back h3
        have k3 : By8 l3 := by rw [e3] at k2; exact k2.right
        split at hx
        · cases hx
        · rename_i fr l4 h4
          have e4 := rdNum_back k3 h4
          have k4 : By8 l4 := by rw [e4] at k3; exact k3.right
          split at hx
          · cases hx
          · rename_i n l5 h5
            have e5 := rdNum_back k4 h5
            have k5 : By8 l5 := by rw [e5] at k4; exact k4.right
            split at hx
            · cases hx
            · rename_i cd l6 h6
              obtain ⟨e6, n6, g6⟩ := rdRow_back (fun l x m => rdIns_back) n l5 cd l6 k5 h6
              have k6 : By8 l6 := by rw [e6] at k5; exact k5.right
              split at hx
              · cases hx
              · rename_i ks l7 q7 h7
                obtain ⟨e7, n7, g7, c7⟩ := lrDta_back (lrDat_back h 100) k6 h7
                have k7 : By8 l7 := by rw [e7] at k6; exact k6.right
                split at hx
                · cases hx
                · rename_i n2 l8 h8'
                  have e8 := rdNum_back k7 h8'
                  have k8 : By8 l8 := by rw [e8] at k7; exact k7.right
                  split at hx
                  · cases hx
                  · rename_i ns l9 h9
                    cases hx
                    obtain ⟨e9, n9, g9⟩ := rdRow_back (P := fun t => t.size ≤ 1099511627776) (fun l x m b8 hh => ⟨(rdTxt_back b8 hh).1, rdTxt_size hh b8⟩) n2 l8 ns m k8 h9
                    refine ⟨?_, ⟨rdTxt_size h1 h8, by rw [n6]; exact rdNum_le h5, n7, g7, by rw [n9]; exact rdNum_le h8', g9⟩, c7⟩
                    rw [e1, e2, e3, e4, e5, e6, e7, e8, e9]
                    simp [proB, n6, n9, List.append_assoc]

/-- What the document's reader reads, where it is right, the strict one reads. -/
theorem rd_of_lr {h : Nat} {l : List Nat} {ps : List (PC h)} (h8 : By8 l) (hx : lrPrg h l 20000 = some ps) (hm : mayW ps = true) : rdPrg h l 20000 = some ps := by
  unfold lrPrg at hx
  split at hx
  · rename_i h4
    split at hx
    · cases hx
    · rename_i n m hn
      split at hx
      · cases hx
      · rename_i qs k r hr
        split at hx
        · rename_i hk
          cases hx
          have h8d : By8 (l.drop 4) := fun x hx => h8 x (List.mem_of_mem_drop hx)
          have e1 := rdNum_back h8d hn
          have h8m : By8 m := by rw [e1] at h8d; exact h8d.right
          obtain ⟨e2, n2, g2, c2⟩ := rdRowP_back (lrPro_back h) n m 20000 ps k r h8m hr
          have e : l = pgB ps := by
            rw [← List.take_append_drop 4 l, h4, e1, e2, hk, List.append_nil]
            unfold pgB
            rw [n2, List.append_assoc]
          rw [e]
          exact rdPrg_enc ps hm g2 (by rw [n2]; exact rdNum_le hn)
        · cases hx
  · cases hx

/-- Both readers: the strict one reads just what the other reads and is right. -/
theorem rd_iff {h : Nat} {l : List Nat} {ps : List (PC h)} (h8 : By8 l) : rdPrg h l 20000 = some ps ↔ lrPrg h l 20000 = some ps ∧ mayW ps = true :=
  ⟨fun hx => ⟨lr_of_rd hx, (rdPrg_back h8 hx).2⟩, fun hx => rd_of_lr h8 hx.1 hx.2⟩

theorem lrPrg_back {h : Nat} {l : List Nat} {ps : List (PC h)} (h8 : By8 l) (hx : lrPrg h l 20000 = some ps) : l = pgB ps := by
  unfold lrPrg at hx
  split at hx
  · rename_i h4
    split at hx
    · cases hx
    · rename_i n m hn
      split at hx
      · cases hx
      · rename_i qs k r hr
        split at hx
        · rename_i hk
          cases hx
          have h8d : By8 (l.drop 4) := fun x hx => h8 x (List.mem_of_mem_drop hx)
          have e1 := rdNum_back h8d hn
          have h8m : By8 m := by rw [e1] at h8d; exact h8d.right
          obtain ⟨e2, n2, g2, c2⟩ := rdRowP_back (lrPro_back h) n m 20000 ps k r h8m hr
          rw [← List.take_append_drop 4 l, h4, e1, e2, hk, List.append_nil]
          unfold pgB
          rw [n2, List.append_assoc]
        · cases hx
  · cases hx

theorem four_of : ∀ {l : List Nat}, ¬ l.length < 4 → ∃ a b c d, l.take 4 = [a, b, c, d]
  | [], h => absurd (by simp) h
  | [_], h => absurd (by simp) h
  | [_, _], h => absurd (by simp) h
  | [_, _, _], h => absurd (by simp) h
  | a :: b :: c :: d :: _, _ => ⟨a, b, c, d, rfl⟩

theorem bl4 {w W : World} {v : Value} {l : List Nat} {a b c d : Nat} (h : BL w v (l.take 4)) (h4 : l.take 4 = [a, b, c, d]) (u : Up w W) : ∃ g off cap, v = .slice (some ⟨g, off, none⟩) 4 cap ∧ W.cell? ⟨g, off, none⟩ = some (.int .u8 a) ∧ W.cell? ⟨g, off + 1, none⟩ = some (.int .u8 b) ∧ W.cell? ⟨g, off + 2, none⟩ = some (.int .u8 c) ∧ W.cell? ⟨g, off + 3, none⟩ = some (.int .u8 d) := by
  rw [h4] at h
  obtain ⟨ao, cap, e, h1, h2, h3⟩ := h.up u
  rcases h3 with ⟨rfl, rfl⟩ | ⟨g, off, rfl, hc⟩
  · simp at h1
  · exact ⟨g, off, cap, e, hc 0 (by simp), hc 1 (by simp), hc 2 (by simp), hc 3 (by simp)⟩

set_option maxRecDepth 20000 in
set_option maxHeartbeats 4000000 in
theorem lread_empty (w : World) (ao : Option Addr) (cap : Nat) :
    Calls Try.prog 15 #[.slice ao 0 cap] w fun e w' => e = .returned (.tuple #[.slice none 0 0, .int .i64 30]) ∧ Fr (fun _ => False) w w' := by
  obtain ⟨W, hW⟩ : ∃ W, W = w.alloc (.cells #[.slice ao 0 cap, .bool false, .int .i64 20000] 71) := ⟨_, rfl⟩
  have a0 : RfAt W w.heap.size (.slice ao 0 cap) false 20000 := by rw [hW]; exact heap_alloc_new w _
  have c0 := a0.c0
  have c1 := a0.c1
  have f1 := a0.fz 1
  have a1 := a0.set1 true
  have d1 := a1.c1
  rw [hW] at c0 c1 f1 d1
  clear hW a0 a1
  go_enter Try.func15, Try.ntmps15
  go_wp2
  go_returns
  exact ⟨rfl, (Fr.refl _ w).alloc _⟩

set_option maxRecDepth 20000 in
set_option maxHeartbeats 4000000 in
theorem lread_head (w : World) (v : Value) (l : List Nat) (hb : BL w v l) (hx : l.take 4 ≠ [84, 65, 78, 68]) :
    Calls Try.prog 15 #[v] w fun e w' => e = .returned (.tuple #[.slice none 0 0, .int .i64 30]) ∧ Fr (fun _ => False) w w' := by
  obtain ⟨aov, capv, rfl, -⟩ := id hb
  have hB0 : RfS w (w.alloc (.cells #[.slice aov l.length capv, .bool false, .int .i64 20000] 71)) w.heap.size l false 20000 := by
    exact ⟨up_alloc w _, Nat.le_refl _, _, hb, heap_alloc_new w _⟩
  have HFA : Hid (Fr (fun _ => False) w (w.alloc (.cells #[.slice aov l.length capv, .bool false, .int .i64 20000] 71))) := hide ((Fr.refl _ w).alloc _)
  by_cases hl4 : l.length < 4
  · have K0 := hide (ltake_no w _ w.heap.size 4 l _ hB0 hl4)
    clear hB0 hb hx
    go_enter Try.func15, Try.ntmps15
    go_wp2_with (go_at_call 29; refine K0.out.mono ?_; rintro e0 w0 ⟨rfl, hr0, F0⟩; have b4 := hr0.k1; have HF0 := hide (HFA.out.trans F0 (fun x hx e => absurd hx (by rw [show x = w.heap.size from e]; exact Nat.lt_irrefl _))); clear hr0 F0)
    go_returns
    exact ⟨rfl, HF0.out⟩
  · have K0 := hide (ltake_yes w _ w.heap.size 4 l _ hB0 (by omega))
    obtain ⟨a, b, c, d, e4, hne⟩ : ∃ a b c d, l.take 4 = [a, b, c, d] ∧ ¬ (a = 84 ∧ b = 65 ∧ c = 78 ∧ d = 68) := by
      obtain ⟨a, b, c, d, e⟩ := four_of hl4
      exact ⟨a, b, c, d, e, fun e2 => hx (by obtain ⟨rfl, rfl, rfl, rfl⟩ := e2; exact e)⟩
    have H4 := hide e4
    clear hB0 hb hx
    by_cases ha : a = 84
    · subst ha
      by_cases hbb : b = 65
      · subst hbb
        by_cases hc : c = 78
        · subst hc
          have hd : ((d : Int) != 68) = true := by rw [bne_iff_ne]; have := hne; omega
          clear hne e4
          go_enter Try.func15, Try.ntmps15
          go_wp2_with (go_at_call 29; refine K0.out.mono ?_; rintro e0 w0 ⟨v0, rfl, hb0, hr0, F0⟩; have c40 := bl4 hb0 H4.out hr0.1; obtain ⟨g4, o4, cap4, rfl, y40, y41, y42, y43⟩ := c40; have b4 := hr0.k1; have HF0 := hide (HFA.out.trans F0 (fun x hx e => absurd hx (by rw [show x = w.heap.size from e]; exact Nat.lt_irrefl _))); clear hb0 hr0 F0)
          go_returns
          exact ⟨rfl, HF0.out⟩
        · have hd : ((c : Int) != 78) = true := by rw [bne_iff_ne]; omega
          clear hne e4 hc
          go_enter Try.func15, Try.ntmps15
          go_wp2_with (go_at_call 29; refine K0.out.mono ?_; rintro e0 w0 ⟨v0, rfl, hb0, hr0, F0⟩; have c40 := bl4 hb0 H4.out hr0.1; obtain ⟨g4, o4, cap4, rfl, y40, y41, y42, y43⟩ := c40; have b4 := hr0.k1; have HF0 := hide (HFA.out.trans F0 (fun x hx e => absurd hx (by rw [show x = w.heap.size from e]; exact Nat.lt_irrefl _))); clear hb0 hr0 F0)
          go_returns
          exact ⟨rfl, HF0.out⟩
      · have hd : ((b : Int) != 65) = true := by rw [bne_iff_ne]; omega
        clear hne e4 hbb
        go_enter Try.func15, Try.ntmps15
        go_wp2_with (go_at_call 29; refine K0.out.mono ?_; rintro e0 w0 ⟨v0, rfl, hb0, hr0, F0⟩; have c40 := bl4 hb0 H4.out hr0.1; obtain ⟨g4, o4, cap4, rfl, y40, y41, y42, y43⟩ := c40; have b4 := hr0.k1; have HF0 := hide (HFA.out.trans F0 (fun x hx e => absurd hx (by rw [show x = w.heap.size from e]; exact Nat.lt_irrefl _))); clear hb0 hr0 F0)
        go_returns
        exact ⟨rfl, HF0.out⟩
    · have hd : ((a : Int) != 84) = true := by rw [bne_iff_ne]; omega
      clear hne e4 ha
      go_enter Try.func15, Try.ntmps15
      go_wp2_with (go_at_call 29; refine K0.out.mono ?_; rintro e0 w0 ⟨v0, rfl, hb0, hr0, F0⟩; have c40 := bl4 hb0 H4.out hr0.1; obtain ⟨g4, o4, cap4, rfl, y40, y41, y42, y43⟩ := c40; have b4 := hr0.k1; have HF0 := hide (HFA.out.trans F0 (fun x hx e => absurd hx (by rw [show x = w.heap.size from e]; exact Nat.lt_irrefl _))); clear hb0 hr0 F0)
      go_returns
      exact ⟨rfl, HF0.out⟩

theorem rin_any (v l h : Int) (w : World) : Calls Try.prog 43 #[.int .i64 v, .int .i64 l, .int .i64 h] w fun e w' => e = .returned (.bool (decide (l ≤ v) && decide (v ≤ h))) ∧ w' = w := by
  by_cases h0 : l ≤ v
  · by_cases h1 : v ≤ h
    · go_enter Try.func43, Try.ntmps43
      go_wp2
      go_ret
      exact ⟨by simp [h0, h1], rfl⟩
    · go_enter Try.func43, Try.ntmps43
      go_wp2
      go_ret
      exact ⟨by simp [h1], rfl⟩
  · go_enter Try.func43, Try.ntmps43
    go_wp2
    go_ret
    exact ⟨by rw [show decide (l ≤ v) = false from decide_eq_false (by omega)]; rfl, rfl⟩

theorem rinN_any (v : Int) (w : World) : Calls Try.prog 43 #[.int .i64 v, .int .i64 0, .int .i64 1099511627776] w fun e w' => e = .returned (.bool (isNum v)) ∧ w' = w := rin_any v 0 1099511627776 w

theorem rhalf_any (v : Int) (w : World) : Calls Try.prog 44 #[.int .i64 v] w fun e w' => e = .returned (.bool (half v)) ∧ w' = w := by
  have H := hide (rin_any v (-549755813888) 549755813888 w)
  have E : Hid ((decide (-549755813888 ≤ v) && decide (v ≤ 549755813888)) = half v) := rfl
  rw [E.out] at H
  clear E
  go_enter Try.func44, Try.ntmps44
  go_wp2_with (go_at_call 43; refine H.out.mono ?_; rintro e w1 ⟨rfl, hw⟩; replace hw := hw.symm; subst hw)
  go_ret
  exact ⟨rfl, rfl⟩

/-- How many parts are left. -/
def LAt (w : World) (cb c : Nat) : Prop := w.heap[cb]? = some (.cells #[.int .i64 (c : Int)] 88 (0, 0))

theorem LAt.lt {w : World} {cb c : Nat} (h : LAt w cb c) : cb < w.heap.size := (Array.getElem?_eq_some_iff.1 h).1

def LF (w : World) (cb c s : Nat) (r : Bool) (e : Ending) (w' : World) : Prop := e = .returned (.bool r) ∧ (r = true → LAt w' cb (c - s)) ∧ Fr (fun k => k = cb) w w'

def RTOK (h : Nat) : Prop := ∀ (w0 w : World) (cb c : Nat) (d : Tr h) (c0 c1 c2 c3 c4 c5 c6 : Value) (k : Nat), DatC w0 h d [c0, c1, c2, c3, c4, c5, c6] → Up w0 w → w0.heap.size ≤ cb → LAt w cb c → c ≤ 20000 → 1 ≤ k → k ≤ 101 → (datB h d).length ≤ 900000000 →
  Calls Try.prog 45 #[.pointer (some ⟨cb, 0, none⟩), .agg #[c0, c1, c2, c3, c4, c5, c6], .int .i64 (k : Int)] w fun e w' => LF w cb c (ptsD h d) (goodD h (101 - k) d && decide (ptsD h d ≤ c)) e w'

theorem flat_mem_le {α : Type} (f : α → List Nat) {L : List α} {x : α} (hx : x ∈ L) : (f x).length ≤ (L.flatMap f).length := by
  obtain ⟨a, b, rfl⟩ := List.append_of_mem hx
  simp only [List.flatMap_append, List.flatMap_cons, List.length_append]
  omega

theorem pg_dat_le {N : Nat} {ps : List (PC N)} {p : PC N} (hp : p ∈ ps) {x : Tr N} (hx : x ∈ p.ks) : (datB N x).length ≤ (pgB ps).length := by
  have h1 := flat_mem_le proB hp
  have h2 := flat_mem_le (datB N) hx
  simp only [pgB, proB, List.length_append] at h1 ⊢
  omega

def kK {N : Nat} (l : List (Tr N)) (i : Nat) : Nat := ((l.take i).map (ptsD N)).sum

theorem kK_succ {N : Nat} (l : List (Tr N)) (i : Nat) (hi : i < l.length) : kK l (i + 1) = kK l i + ptsD N l[i] := by
  unfold kK
  rw [List.take_add_one, List.getElem?_eq_getElem hi, List.map_append, List.sum_append]
  simp

theorem kK_le {N : Nat} (l : List (Tr N)) (i : Nat) : kK l i ≤ ptsA N l := by
  unfold kK ptsA
  have : (l.map (ptsD N)).sum = ((l.take i).map (ptsD N)).sum + ((l.drop i).map (ptsD N)).sum := by
    rw [← List.sum_append, ← List.map_append, List.take_append_drop]
  omega

theorem kK_all {N : Nat} (l : List (Tr N)) : kK l l.length = ptsA N l := by
  unfold kK ptsA
  rw [List.take_length]

theorem PBx.frN {w w' : World} {B cb : Nat} {c0 c1 c2 c3 c4 c5 c6 : Value} (h : PBx w B c0 c1 c2 c3 c4 c5 c6) (hf : Fr (fun k => k = cb) w w') (hb : cb < B) : PBx w' B c0 c1 c2 c3 c4 c5 c6 := (hf.block B (Array.getElem?_eq_some_iff.1 h).1 (fun e => by omega)).trans h

set_option maxRecDepth 100000 in
set_option maxHeartbeats 2000000 in
theorem rright_of {N : Nat} (hC : RTOK N) (w : World) (ps : List (PC N)) (v : Value) (hr : RowD w (PCell w) v ps) (hl : (pgB ps).length ≤ 900000000) :
    Calls Try.prog 21 #[v] w fun e w' => e = .returned (.bool (mayW ps)) ∧ Fr (fun _ => False) w w' := by
  obtain ⟨ao, cap, rfl⟩ := hr.shape
  have hIl : ps.length ≤ cap ∧ cap ≤ 9223372036854775807 := by
    obtain ⟨ao', cap', e, h1, h2, -⟩ := hr
    cases e
    exact ⟨h1, h2⟩
  obtain ⟨r, hrr⟩ : ∃ r, r = mayW ps := ⟨_, rfl⟩
  rw [← hrr]
  have HRR := hide hrr
  have HR := hide hr
  have HC := hide hC
  have HDL := hide (fun (p : PC N) (hp : p ∈ ps) (x : Tr N) (hx : x ∈ p.ks) => Nat.le_trans (pg_dat_le hp hx) hl)
  have HCT : Hid (LAt (w.alloc (.cells #[.int .i64 20000] 88)) w.heap.size 20000) := hide (heap_alloc_new w _)
  clear hrr hr hC hl
  go_enter Try.func21, Try.ntmps21
  go_wp2
  go_loopg [4] ps.length (fun kg u wr => ∃ i m : Nat, u = .int .i64 (i : Int) ∧ i ≤ ps.length ∧ kg = ps.length - i ∧ 20000 = m + kA ps i ∧ LAt wr w.heap.size m ∧ (∀ j (hj : j < ps.length), j < i → goodP ps[j] = true) ∧ Fr (fun k => k = w.heap.size) (w.alloc (.cells #[.int .i64 20000] 88)) wr)
  case atStart => exact ⟨0, 20000, rfl, Nat.zero_le _, rfl, by simp [kA], HCT.out, (fun j _ hj => by omega), Fr.refl _ _⟩
  case round =>
    clear HCT
    obtain ⟨i, m, rfl, hi, hkg, hm, hct, hgd, hF⟩ := hrel
    have hup : Up w wr := (fr_box hF).upw'
    by_cases hil : i < ps.length
    · obtain ⟨g, off, rfl, co, cc, ka, kc, na, nc, hd, e0, e1, e2, e3, e4, e5, e6⟩ := proto_cells HR.out hup hil
      have hch := kA_succ ps i hil
      have hcn := kA_le ps (i + 1)
      have hbad : goodP ps[i] = false → r = false := fun e => by
        rw [HRR.out]; unfold mayW; rw [all_bad hil e]; rfl
      have hmany : m < ptsA N ps[i].ks → r = false := fun e => by
        rw [HRR.out]; unfold mayW; rw [decide_eq_false (by omega), Bool.and_false]
      have hgood : goodP ps[i] = true → ∀ j (hj : j < ps.length), j < i + 1 → goodP ps[j] = true := fun e j hj hjk => by
        by_cases ej : j = i
        · subst ej; exact e
        · exact hgd j hj (by omega)
      have HDP := hide (HDL.out ps[i] (List.getElem_mem hil))
      generalize ps[i] = p at *
      obtain ⟨co', cc', ka', kc', na', nc', ecs, hco, hks, hns⟩ := hd
      injection ecs with q0 ecs
      injection ecs with q1 ecs
      injection ecs with q2 ecs
      injection ecs with q3 ecs
      injection ecs with q4 ecs
      injection ecs with q5 ecs
      rw [q4] at e4
      rw [q5] at e5
      injection q4 with qa qb qc
      injection q5 with qd qe qf
      subst qa qc qd qf
      clear ecs q0 q1 q2 q3 qb qe
      have hcw : w.heap.size < wr.heap.size := hct.lt
      have hm20 : m ≤ 20000 := by omega
      have hc1 := hco.1
      have hc2 := hco.2.1
      have hk1 : p.ks.length ≤ kc ∧ kc ≤ 9223372036854775807 := by
        obtain ⟨ao', cap', e, z1, z2, -⟩ := hks
        cases e
        exact ⟨z1, z2⟩
      have HI1 := hide (fun (W : World) => rinN_any p.args W)
      have HI2 := hide (fun (W : World) => rinN_any p.free W)
      have hB0 : PBx (wr.alloc (.cells #[.string p.nm, .int .i64 p.args, .int .i64 p.free, .bool p.rest, .slice co p.code.length cc, .slice ka p.ks.length kc, .slice na p.ns.length nc] 48)) wr.heap.size (.string p.nm) (.int .i64 p.args) (.int .i64 p.free) (.bool p.rest) (.slice co p.code.length cc) (.slice ka p.ks.length kc) (.slice na p.ns.length nc) := heap_alloc_new wr _
      have HB0 := hide hB0
      have HF0 := hide (hF.trans ((Fr.refl (fun _ => False) wr).alloc (.cells #[.string p.nm, .int .i64 p.args, .int .i64 p.free, .bool p.rest, .slice co p.code.length cc, .slice ka p.ks.length kc, .slice na p.ns.length nc] 48)) (fun _ _ e => e.elim))
      have HL0 : Hid (LAt (wr.alloc (.cells #[.string p.nm, .int .i64 p.args, .int .i64 p.free, .bool p.rest, .slice co p.code.length cc, .slice ka p.ks.length kc, .slice na p.ns.length nc] 48)) w.heap.size m) := (heap_alloc_old wr _ (r := w.heap.size) hcw).trans hct
      have hkI : (i : Int) < (ps.length : Int) := by omega
      have HX : Hid (goodP p = (isNum p.args && (isNum p.free && (p.code.all goodI && p.ks.all (goodD N 100))))) := rfl
      have HBD := hide hbad
      have HMN := hide hmany
      have HGD := hide hgood
      have HCO := hide hco
      have HKS := hide hks
      have HKG := hide hkg
      have HCH : Hid (20000 = m + kA ps i ∧ kA ps (i + 1) = kA ps i + ptsA N p.ks) := ⟨hm, hch⟩
      have HU := hide hup
      clear hch hcn hbad hmany hgood hgd hF hct hm hco hks hns hup hB0 hkg
      obtain ⟨b1, hb1⟩ : ∃ x, x = isNum p.args := ⟨_, rfl⟩
      obtain ⟨b2, hb2⟩ : ∃ x, x = isNum p.free := ⟨_, rfl⟩
      rw [← hb1] at HI1 HX
      rw [← hb2] at HI2 HX
      clear hb1 hb2
      cases b1
      · have HF := hide (HBD.out (by rw [HX.out]; simp))
        go_wp2_with (first
          | (go_at_call_of 43 (Value.int IntKind.i64 p.args); refine (HI1.out _).mono ?_; rintro e5 w5 ⟨rfl, rfl⟩))
        go_ret
        exact ⟨by rw [HF.out]; rfl, fr_box HF0.out⟩
      · cases b2
        · have HF := hide (HBD.out (by rw [HX.out]; simp))
          go_wp2_with (first
            | (go_at_call_of 43 (Value.int IntKind.i64 p.args); refine (HI1.out _).mono ?_; rintro e5 w5 ⟨rfl, rfl⟩)
            | (go_at_call_of 43 (Value.int IntKind.i64 p.free); refine (HI2.out _).mono ?_; rintro e6 w6 ⟨rfl, rfl⟩))
          go_ret
          exact ⟨by rw [HF.out]; rfl, fr_box HF0.out⟩
        · go_wp2_with (first
            | (go_at_call_of 43 (Value.int IntKind.i64 p.args); refine (HI1.out _).mono ?_; rintro e5 w5 ⟨rfl, rfl⟩)
            | (go_at_call_of 43 (Value.int IntKind.i64 p.free); refine (HI2.out _).mono ?_; rintro e6 w6 ⟨rfl, rfl⟩))
          clear HI1 HI2 e0 e1 e2 e3 e4 e5 e6
          generalize (wr.alloc (.cells #[.string p.nm, .int .i64 p.args, .int .i64 p.free, .bool p.rest, .slice co p.code.length cc, .slice ka p.ks.length kc, .slice na p.ns.length nc] 48)) = W1 at *
          generalize wr.heap.size = pb at *
          go_loopw [6] (fun u w2 => ∃ i2 : Nat, u = .int .i64 (i2 : Int) ∧ i2 ≤ p.code.length ∧ (∀ j (hj : j < p.code.length), j < i2 → goodI p.code[j] = true) ∧ W1 = w2) (fun u _ => p.code.length - (intOf u).toNat)
          case atStart => exact ⟨0, rfl, Nat.zero_le _, (fun j _ hj => by omega), rfl⟩
          case round =>
            obtain ⟨i2, rfl, hi2, hgi, rfl⟩ := hrel
            have yy4 := HB0.out.k4
            have yy5 := HB0.out.k5
            by_cases hil2 : i2 < p.code.length
            · obtain ⟨g2, off2, ea, d0, d1, d2⟩ : ∃ g off, co = some ⟨g, off, none⟩ ∧ W1.cell? ⟨g, off + i2 * 3, none⟩ = some (.int .i64 p.code[i2].1) ∧ W1.cell? ⟨g, off + i2 * 3 + 1, none⟩ = some (.int .i64 p.code[i2].2.1) ∧ W1.cell? ⟨g, off + i2 * 3 + 2, none⟩ = some (.int .i64 p.code[i2].2.2) := by
                rcases (HCO.out.up (fr_box HF0.out).upw').2.2 with e | ⟨g, off, ea, hc⟩
                · omega
                · exact ⟨g, off, ea, hc i2 hil2⟩
              subst ea
              have hbad2 : goodI p.code[i2] = false → r = false := fun e => HBD.out (by rw [HX.out, all_bad hil2 e]; simp)
              have hgood2 : goodI p.code[i2] = true → ∀ j (hj : j < p.code.length), j < i2 + 1 → goodI p.code[j] = true := fun e j hj hjk => by
                by_cases ej : j = i2
                · subst ej; exact e
                · exact hgi j hj (by omega)
              generalize p.code[i2] = x at *
              unfold goodI at hbad2 hgood2
              have HJ1 := hide (fun (W : World) => rinN_any x.1 W)
              have HJ2 := hide (fun (W : World) => rhalf_any x.2.1 W)
              have HJ3 := hide (fun (W : World) => rhalf_any x.2.2 W)
              generalize isNum x.1 = c1 at *
              generalize half x.2.1 = c2 at *
              generalize half x.2.2 = c3 at *
              have HBD2 := hide hbad2
              have HGD2 := hide hgood2
              have hkI2 : (i2 : Int) < (p.code.length : Int) := by omega
              clear hbad2 hgood2 hgi
              cases c1
              · have HF := hide (HBD2.out rfl)
                go_wp2_with (go_at_call 43; refine (HJ1.out _).mono ?_; rintro e7 w7 ⟨rfl, rfl⟩)
                go_ret
                exact ⟨by rw [HF.out]; rfl, fr_box HF0.out⟩
              · cases c2
                · have HF := hide (HBD2.out rfl)
                  go_wp2_with (first
                    | (go_at_call 43; refine (HJ1.out _).mono ?_; rintro e7 w7 ⟨rfl, rfl⟩)
                    | (go_at_call_of 44 (Value.int IntKind.i64 x.2.1); refine (HJ2.out _).mono ?_; rintro e7 w7 ⟨rfl, rfl⟩))
                  go_ret
                  exact ⟨by rw [HF.out]; rfl, fr_box HF0.out⟩
                · cases c3
                  · have HF := hide (HBD2.out rfl)
                    go_wp2_with (first
                      | (go_at_call 43; refine (HJ1.out _).mono ?_; rintro e7 w7 ⟨rfl, rfl⟩)
                      | (go_at_call_of 44 (Value.int IntKind.i64 x.2.1); refine (HJ2.out _).mono ?_; rintro e7 w7 ⟨rfl, rfl⟩)
                      | (go_at_call_of 44 (Value.int IntKind.i64 x.2.2); refine (HJ3.out _).mono ?_; rintro e7 w7 ⟨rfl, rfl⟩))
                    go_ret
                    exact ⟨by rw [HF.out]; rfl, fr_box HF0.out⟩
                  · have HG := hide (HGD2.out rfl)
                    go_wp2_with (first
                      | (go_at_call 43; refine (HJ1.out _).mono ?_; rintro e7 w7 ⟨rfl, rfl⟩)
                      | (go_at_call_of 44 (Value.int IntKind.i64 x.2.1); refine (HJ2.out _).mono ?_; rintro e7 w7 ⟨rfl, rfl⟩)
                      | (go_at_call_of 44 (Value.int IntKind.i64 x.2.2); refine (HJ3.out _).mono ?_; rintro e7 w7 ⟨rfl, rfl⟩))
                    exact ⟨⟨i2 + 1, by go_num, hil2, HG.out, trivial⟩, by simp [intOf]; omega⟩
            · have e : i2 = p.code.length := by omega
              subst e
              have HCG : Hid (p.code.all goodI = true) := by
                unfold Hid
                rw [List.all_eq_true]
                intro x hx
                obtain ⟨j, hj, rfl⟩ := List.getElem_of_mem hx
                exact hgi j hj hj
              have hil2' : ¬ ((p.code.length : Int) < (p.code.length : Int)) := by omega
              clear hgi hil2
              go_wp2
              clear yy4 yy5
              go_loopw [7] (fun u w2 => ∃ i2 m2 : Nat, u = .int .i64 (i2 : Int) ∧ i2 ≤ p.ks.length ∧ m = m2 + kK p.ks i2 ∧ LAt w2 w.heap.size m2 ∧ PBx w2 pb (.string p.nm) (.int .i64 p.args) (.int .i64 p.free) (.bool p.rest) (.slice co p.code.length cc) (.slice ka p.ks.length kc) (.slice na p.ns.length nc) ∧ (∀ j (hj : j < p.ks.length), j < i2 → goodD N 100 p.ks[j] = true) ∧ Fr (fun k => k = w.heap.size) (w.alloc (.cells #[.int .i64 20000] 88)) w2) (fun u _ => p.ks.length - (intOf u).toNat)
              case atStart => exact ⟨0, m, rfl, Nat.zero_le _, by simp [kK], HL0.out, HB0.out, (fun j _ hj => by omega), HF0.out⟩
              case round =>
                clear HB0 HF0 HL0
                obtain ⟨i2, m2, rfl, hi2, hm2, hL, hP, hgk, hF⟩ := hrel
                have hup : Up w wr := (fr_box hF).upw'
                have yy4 := hP.k4
                have yy5 := hP.k5
                by_cases hil2 : i2 < p.ks.length
                · obtain ⟨g2, off2, rfl, kk, km, kb, um, kt, ui, ur, hdat, ⟨x1, x2, x3, rfl⟩, ⟨z1, z2, z3, rfl⟩, ⟨t1, t2, t3, rfl⟩, e0, e1, e2, e3, e4, e5, e6⟩ := row_cells HKS.out hup hil2
                  have hks := kK_succ p.ks i2 hil2
                  have hkl := kK_le p.ks (i2 + 1)
                  obtain ⟨b4, hb4⟩ : ∃ x, x = (goodD N 100 p.ks[i2] && decide (ptsD N p.ks[i2] ≤ m2)) := ⟨_, rfl⟩
                  have HBD4 : Hid (b4 = false → r = false) := fun e => by
                    cases hx : goodD N 100 p.ks[i2] with
                    | false => exact HBD.out (by rw [HX.out, all_bad hil2 hx]; simp)
                    | true =>
                      rw [hb4, hx, Bool.true_and, decide_eq_false_iff_not] at e
                      exact HMN.out (by omega)
                  have HGD4 : Hid (b4 = true → m = (m2 - ptsD N p.ks[i2]) + kK p.ks (i2 + 1) ∧ ∀ j (hj : j < p.ks.length), j < i2 + 1 → goodD N 100 p.ks[j] = true) := fun e => by
                    rw [hb4, Bool.and_eq_true, decide_eq_true_eq] at e
                    refine ⟨by omega, fun j hj hjk => ?_⟩
                    by_cases ej : j = i2
                    · subst ej; exact e.1
                    · exact hgk j hj (by omega)
                  have HQ := hide (show Calls Try.prog 45 #[.pointer (some ⟨w.heap.size, 0, none⟩), .agg #[.int .i64 kk, .int .i64 km, .bool kb, .slice x1 x2 x3, .string kt, .slice z1 z2 z3, .slice t1 t2 t3], .int .i64 1] wr fun e w' => LF wr w.heap.size m2 (ptsD N p.ks[i2]) b4 e w' by rw [hb4]; exact HC.out w wr w.heap.size m2 p.ks[i2] _ _ _ _ _ _ _ 1 hdat hup (Nat.le_refl _) hL (by omega) (by omega) (by omega) (HDP.out _ (List.getElem_mem hil2)))
                  have HPP := hide hP
                  have HFF := hide hF
                  have hkI2 : (i2 : Int) < (p.ks.length : Int) := by omega
                  clear hks hkl hb4 hm2 hL hP hgk hF hup hdat
                  cases b4
                  · have HF := hide (HBD4.out rfl)
                    go_wp2_with (go_at_call 45; refine HQ.out.mono ?_; rintro e8 w8 ⟨rfl, hc8, F8⟩; have HF8 := hide (HFF.out.trans F8 (fun _ _ e => e)); clear F8 hc8)
                    go_ret
                    exact ⟨by rw [HF.out]; rfl, fr_box HF8.out⟩
                  · have HG := hide (HGD4.out rfl)
                    go_wp2_with (go_at_call 45; refine HQ.out.mono ?_; rintro e8 w8 ⟨rfl, hc8, F8⟩; have HF8 := hide (HFF.out.trans F8 (fun _ _ e => e)); have HC8 := hide hc8; have HP8 := hide (HPP.out.frN F8 hcw); clear F8 hc8)
                    exact ⟨⟨i2 + 1, _, by go_num, hil2, HG.out.1, HC8.out trivial, HP8.out, HG.out.2, HF8.out⟩, by simp [intOf]; omega⟩
                · have e : i2 = p.ks.length := by omega
                  subst e
                  rw [kK_all] at hm2
                  have HKA : Hid (p.ks.all (goodD N 100) = true) := by
                    unfold Hid
                    rw [List.all_eq_true]
                    intro x hx
                    obtain ⟨j, hj, rfl⟩ := List.getElem_of_mem hx
                    exact hgk j hj hj
                  have HM2 := hide hm2
                  have HLL := hide hL
                  have HFF := hide hF
                  have hil2' : ¬ ((p.ks.length : Int) < (p.ks.length : Int)) := by omega
                  clear hm2 hL hP hgk hF hup hil2
                  go_wp2
                  go_roundg (ps.length - (i + 1))
                  case measure => have := HKG.out; omega
                  case rel => exact ⟨i + 1, m2, by go_num, hil, rfl, by have := HCH.out; have := HM2.out; omega, HLL.out, HGD.out (by rw [HX.out, HCG.out, HKA.out]; rfl), HFF.out⟩
    · have e : i = ps.length := by omega
      subst e
      have HT : Hid (r = true) := by
        unfold Hid
        rw [HRR.out]
        unfold mayW
        rw [Bool.and_eq_true, decide_eq_true_eq]
        refine ⟨?_, by omega⟩
        rw [List.all_eq_true]
        intro x hx
        obtain ⟨j, hj, rfl⟩ := List.getElem_of_mem hx
        exact hgd j hj hj
      have HFE := hide hF
      have hil' : ¬ ((ps.length : Int) < (ps.length : Int)) := by omega
      clear hgd hF hil hct hup
      go_wp2
      go_ret
      exact ⟨by rw [HT.out]; rfl, fr_box HFE.out⟩

theorem LAt.cell {w : World} {cb c : Nat} (h : LAt w cb c) : w.cell? ⟨cb, 0, none⟩ = some (.int .i64 (c : Int)) := by
  rw [cell_of_row w cb 0 _ _ _ h]
  rfl

theorem LAt.free {w : World} {cb c : Nat} (h : LAt w cb c) : w.frozen? ⟨cb, 0, none⟩ = false := frozen_of_row _ _ _ _ _ h

theorem LAt.set {w : World} {cb c : Nat} (h : LAt w cb c) (d : Nat) : LAt (w.setCell ⟨cb, 0, none⟩ (.int .i64 (d : Int))) cb d := (heap_setCell_same w cb 0 _ _ _ h).trans rfl

theorem LAt.alloc {w : World} {cb c : Nat} (h : LAt w cb c) (o : Obj) : LAt (w.alloc o) cb c := (heap_alloc_old w o (r := cb) h.lt).trans h

set_option maxRecDepth 100000 in
set_option maxHeartbeats 2000000 in
theorem right_c0 (w : World) (cb k : Nat) (kk n : Int) (b : Bool) (t : ByteArray) (um ui ur : Value) (hL : LAt w cb 0) :
    Calls Try.prog 45 #[.pointer (some ⟨cb, 0, none⟩), .agg #[.int .i64 kk, .int .i64 n, .bool b, um, .string t, ui, ur], .int .i64 (k : Int)] w fun e w' => e = .returned (.bool false) ∧ Fr (fun j => j = cb) w w' := by
  have hA := hL.alloc (.cells #[.int .i64 kk, .int .i64 n, .bool b, um, .string t, ui, ur] 64)
  have x1 := hA.cell
  have x2 := hA.free
  clear hL hA
  go_enter Try.func45, Try.ntmps45
  go_wp2
  go_ret
  exact ⟨rfl, Fr.setCell (S := fun j => j = cb) ((Fr.refl _ _).alloc _) (fun _ => rfl) _ _⟩

/-- The world where a datum is looked at. -/
def rtW (w : World) (cb c : Nat) (kk n : Int) (b : Bool) (t : ByteArray) (um ui ur : Value) : World := (w.alloc (.cells #[.int .i64 kk, .int .i64 n, .bool b, um, .string t, ui, ur] 64)).setCell ⟨cb, 0, none⟩ (.int .i64 (c : Int))

set_option maxRecDepth 100000 in
set_option maxHeartbeats 2000000 in
theorem right_k (w : World) (cb c k : Nat) (kk n : Int) (b : Bool) (t : ByteArray) (um ui ur : Value) (hL : LAt w cb (c + 1)) (hc : c < 20000) (hk : 100 < k) (hk2 : k ≤ 101) :
    Calls Try.prog 45 #[.pointer (some ⟨cb, 0, none⟩), .agg #[.int .i64 kk, .int .i64 n, .bool b, um, .string t, ui, ur], .int .i64 (k : Int)] w fun e w' => e = .returned (.bool false) ∧ Fr (fun j => j = cb) w w' := by
  have hA := hL.alloc (.cells #[.int .i64 kk, .int .i64 n, .bool b, um, .string t, ui, ur] 64)
  have x1 := hA.cell
  have x2 := hA.free
  have x3 := (hA.set c).cell
  have e1 : ((c + 1 : Nat) : Int) - 1 = (c : Int) := by omega
  have e2 : ¬ ((c : Int) < 0) := by omega
  have e3 : (100 : Int) < (k : Int) := by omega
  clear hL hA
  go_enter Try.func45, Try.ntmps45
  go_wp2
  go_ret
  exact ⟨rfl, Fr.setCell (S := fun j => j = cb) ((Fr.refl _ _).alloc _) (fun _ => rfl) _ _⟩

theorem rt_box {w : World} {cb c0 : Nat} (c : Nat) (kk n : Int) (b : Bool) (t : ByteArray) (um ui ur : Value) (hL : LAt w cb c0) : DBx (rtW w cb c kk n b t um ui ur) w.heap.size (.int .i64 kk) (.int .i64 n) (.bool b) um (.string t) ui ur := by
  have h := hL.lt
  have F : Fr (fun j => j = cb) (w.alloc (.cells #[.int .i64 kk, .int .i64 n, .bool b, um, .string t, ui, ur] 64)) (rtW w cb c kk n b t um ui ur) := Fr.setCell (S := fun j => j = cb) (Fr.refl _ _) (fun _ => rfl) _ _
  exact (F.block w.heap.size (by simp) (by omega)).trans (heap_alloc_new w _)

theorem rt_fr (w : World) (cb c : Nat) (kk n : Int) (b : Bool) (t : ByteArray) (um ui ur : Value) : Fr (fun j => j = cb) w (rtW w cb c kk n b t um ui ur) := Fr.setCell (S := fun j => j = cb) ((Fr.refl _ _).alloc _) (fun _ => rfl) _ _

set_option maxRecDepth 100000 in
set_option maxHeartbeats 2000000 in
theorem right_half (w : World) (cb c k : Nat) (kk n : Int) (b : Bool) (t : ByteArray) (um ui ur : Value) (hL : LAt w cb (c + 1)) (hc : c < 20000) (hk : k ≤ 100) (hn : half n = false) :
    Calls Try.prog 45 #[.pointer (some ⟨cb, 0, none⟩), .agg #[.int .i64 kk, .int .i64 n, .bool b, um, .string t, ui, ur], .int .i64 (k : Int)] w fun e w' => e = .returned (.bool false) ∧ Fr (fun j => j = cb) w w' := by
  have hA := hL.alloc (.cells #[.int .i64 kk, .int .i64 n, .bool b, um, .string t, ui, ur] 64)
  have x1 := hA.cell
  have x2 := hA.free
  have x3 := (hA.set c).cell
  have y1 := (rt_box c kk n b t um ui ur hL).k1
  unfold rtW at y1
  have HF := hide (rt_fr w cb c kk n b t um ui ur)
  have HH := hide (fun (W : World) => rhalf_any n W)
  rw [hn] at HH
  have e1 : ((c + 1 : Nat) : Int) - 1 = (c : Int) := by omega
  have e2 : ¬ ((c : Int) < 0) := by omega
  have e3 : ¬ ((100 : Int) < (k : Int)) := by omega
  clear hL hA hn
  go_enter Try.func45, Try.ntmps45
  go_wp2_with (go_at_call 44; refine (HH.out _).mono ?_; rintro e7 w7 ⟨rfl, hw⟩; replace hw := hw.symm; subst hw)
  go_ret
  exact ⟨rfl, HF.out⟩

set_option maxRecDepth 100000 in
set_option maxHeartbeats 4000000 in
theorem right_2 (w : World) (cb c k : Nat) (n : Int) (b : Bool) (t : ByteArray) (a1 a2 a3 : Option Addr) (l1 l2 l3 p1 p2 p3 : Nat) (hL : LAt w cb (c + 1)) (hc : c < 20000) (hk : k ≤ 100) (hn : half n = true) :
    Calls Try.prog 45 #[.pointer (some ⟨cb, 0, none⟩), .agg #[.int .i64 2, .int .i64 n, .bool b, .slice a1 l1 p1, .string t, .slice a2 l2 p2, .slice a3 l3 p3], .int .i64 (k : Int)] w fun e w' => e = .returned (.bool (decide (l1 = 0) && (!b && (decide (t.size = 0) && (decide (l2 = 0) && decide (l3 = 0)))))) ∧ w' = rtW w cb c 2 n b t (.slice a1 l1 p1) (.slice a2 l2 p2) (.slice a3 l3 p3) := by
  have hA := hL.alloc (.cells #[.int .i64 2, .int .i64 n, .bool b, .slice a1 l1 p1, .string t, .slice a2 l2 p2, .slice a3 l3 p3] 64)
  have x1 := hA.cell
  have x2 := hA.free
  have x3 := (hA.set c).cell
  have hb := rt_box c 2 n b t (.slice a1 l1 p1) (.slice a2 l2 p2) (.slice a3 l3 p3) hL
  have y0 := hb.k0
  have y1 := hb.k1
  have y2 := hb.k2
  have y3 := hb.k3
  have y4 := hb.k4
  have y5 := hb.k5
  have y6 := hb.k6
  unfold rtW at y0 y1 y2 y3 y4 y5 y6
  have HH := hide (fun (W : World) => rhalf_any n W)
  rw [hn] at HH
  have HTZ : Hid (decide (t.size = 0) = true ↔ t.toList = []) := by
    unfold Hid
    rw [decide_eq_true_eq, ByteArray.toList_eq, ← List.length_eq_zero_iff, Array.length_toList]
    rfl
  generalize decide (t.size = 0) = tz at *
  have e1 : ((c + 1 : Nat) : Int) - 1 = (c : Int) := by omega
  have e2 : ¬ ((c : Int) < 0) := by omega
  have e3 : ¬ ((100 : Int) < (k : Int)) := by omega
  clear hL hA hn hb
  by_cases h1 : l1 = 0
  · subst h1
    cases b
    · cases tz
      · have ht : ¬ (t.toList = []) := fun e => by have := HTZ.out.2 e; cases this
        go_enter Try.func45, Try.ntmps45
        go_wp2_with (go_at_call 44; refine (HH.out _).mono ?_; rintro e7 w7 ⟨rfl, hw⟩; replace hw := hw.symm; subst hw)
        go_ret
        exact ⟨by simp, rfl⟩
      · have ht : t.toList = [] := HTZ.out.1 rfl
        by_cases h2 : l2 = 0
        · subst h2
          by_cases h3 : l3 = 0
          · subst h3
            go_enter Try.func45, Try.ntmps45
            go_wp2_with (go_at_call 44; refine (HH.out _).mono ?_; rintro e7 w7 ⟨rfl, hw⟩; replace hw := hw.symm; subst hw)
            go_ret
            exact ⟨by simp, rfl⟩
          · have z3 : (0 : Int) < (l3 : Int) := by omega
            have HN := hide h3
            clear h3
            go_enter Try.func45, Try.ntmps45
            go_wp2_with (go_at_call 44; refine (HH.out _).mono ?_; rintro e7 w7 ⟨rfl, hw⟩; replace hw := hw.symm; subst hw)
            go_ret
            exact ⟨by have h := HN.out; simp [h]; omega, rfl⟩
        · have z2 : (0 : Int) < (l2 : Int) := by omega
          have HN := hide h2
          clear h2
          go_enter Try.func45, Try.ntmps45
          go_wp2_with (go_at_call 44; refine (HH.out _).mono ?_; rintro e7 w7 ⟨rfl, hw⟩; replace hw := hw.symm; subst hw)
          go_ret
          exact ⟨by simp [HN.out], rfl⟩
    · go_enter Try.func45, Try.ntmps45
      go_wp2_with (go_at_call 44; refine (HH.out _).mono ?_; rintro e7 w7 ⟨rfl, hw⟩; replace hw := hw.symm; subst hw)
      go_ret
      exact ⟨by simp, rfl⟩
  · have z1 : (0 : Int) < (l1 : Int) := by omega
    have HN := hide h1
    clear h1
    go_enter Try.func45, Try.ntmps45
    go_wp2_with (go_at_call 44; refine (HH.out _).mono ?_; rintro e7 w7 ⟨rfl, hw⟩; replace hw := hw.symm; subst hw)
    go_ret
    exact ⟨by simp [HN.out], rfl⟩

end Go.Proofs.Ytilcigjhogcjkaa
