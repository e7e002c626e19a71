/-
  What is proved here: CheckBranches.
-/
import Derived.Test.YtdbmmbblcpikeaaLKStacks
namespace Go.Proofs.Ytdbmmbblcpikeaa
open Go Go.RowKit

theorem SK.appL {w0 wr w2 : World} {hb kb g cap : Nat} {v : Value} {l : List (Int × Int × Int)} {o : Obj} {xs : List (Int × Int × Int)} (h : SK w0 wr hb kb v l) (hown : w2.ownsRow (hb + 1) 47 3 (.slice (some ⟨g, 0, none⟩) (l.length + xs.length) cap) (l.length + xs.length) (cellsL l ++ cellsL xs)) (hgrow : (wr.alloc o).grownBy w2 v.ownBlock) :
    w2.heap[hb]? = some (.cells (prC v (some ⟨kb, 0, none⟩) 1 1) 45 (0, 0)) ∧ w2.cell? ⟨hb, 4, none⟩ = some v ∧ w2.frozen? ⟨hb, 4, none⟩ = false ∧ SK w0 (w2.setCell ⟨hb, 4, none⟩ (.slice (some ⟨g, 0, none⟩) (l.length + xs.length) cap)) hb kb (.slice (some ⟨g, 0, none⟩) (l.length + xs.length) cap) (l ++ xs) := by
  have hb2 : w2.heap[hb]? = some (.cells (prC v (some ⟨kb, 0, none⟩) 1 1) 45 (0, 0)) :=
    (hgrow.block hb (by have := h.lt; simp; omega) (fun e => by have := h.nv hb e.symm; omega)).trans ((heap_alloc_old wr o h.lt).trans h.blk)
  rw [show cellsL l ++ cellsL xs = cellsL (l ++ xs) by simp [cellsL]] at hown
  have hg : hb < g := by
    rcases hown.2 with ⟨e, _⟩ | ⟨g', cap', cur, e, hB, _⟩
    · cases e
    · cases e; omega
  refine ⟨hb2, cell_row hb2 rfl, frozen_of_row w2 hb 4 _ _ hb2, ?_, ?_, ?_, h.ge⟩
  · exact heap_setCell_same w2 hb 4 _ _ _ hb2
  · rw [List.length_append]
    obtain ⟨k1, k2⟩ := hown
    refine ⟨by rw [k1], ?_⟩
    rcases k2 with ⟨e, _⟩ | ⟨g', cap', cur, e, r1, r2, r3, r4, r5, r6⟩
    · cases e
    · cases e
      exact .inr ⟨g, cap, cur, rfl, r1, (heap_setCell_other _ _ _ _ (Nat.ne_of_gt hg)).trans r2, r3, r4, r5, r6⟩
  · refine ((h.fr.alloc o).grow hgrow (fun k hk e => ?_)).setCell (fun hlt => ?_) _ _
    · have := h.nv k e; have := h.ge; omega
    · have := h.ge; omega

theorem hcells_atg (w : World) (c : Array Value) (E : TypeId) (g : Nat) (hg : g = w.heap.size) : ∀ j u, c.toList[j]? = some u → (w.alloc (.cells c E)).cell? ((⟨g, 0, none⟩ : Addr).add j) = some u := by
  subst hg
  exact hcells_any w c E
theorem small_B {n k : Nat} (hn : n ≤ 6) (hk : k ≤ 6) : Small (codeB n k) := by
  intro x hx
  simp [codeB, List.mem_replicate] at hx
  rcases hx with rfl | rfl | ⟨_, rfl⟩ | rfl | ⟨_, rfl⟩ | rfl <;> simp <;> omega

set_option maxHeartbeats 4000000 in
set_option maxRecDepth 20000 in
theorem checkBranches_any (x y : Int) (w : World) (hx1 : -9223372036854775808 ≤ x) (hx2 : x ≤ 9223372036854775807) (hy1 : -9223372036854775808 ≤ y) (hy2 : y ≤ 9223372036854775807) :
    Calls Try.prog 6 #[.int .i64 x, .int .i64 y] w fun e w' => e = .returned (.bool true) ∧ Fr (fun _ => False) w w' := by
  obtain ⟨iI, hiI, hz0, hz1, hz2⟩ := info_parts infoIns
  have KA := fun (W : World) => awake_any W
  obtain ⟨n0, hn0, KX⟩ := place_some x 6 (by omega) (by omega) hx1 hx2
  obtain ⟨k0, hk0, KY⟩ := place_some y 6 (by omega) (by omega) hy1 hy2
  obtain ⟨n, en⟩ : ∃ n : Nat, 1 + (n0 : Int) = (n : Int) := ⟨1 + n0, by omega⟩
  obtain ⟨k, ek⟩ : ∃ k : Nat, 1 + (k0 : Int) = (k : Int) := ⟨1 + k0, by omega⟩
  have hn1 : 1 ≤ n := by omega
  have hn2 : n ≤ 6 := by omega
  have hk1 : 1 ≤ k := by omega
  have hk2 : k ≤ 6 := by omega
  have HKA := hide KA
  have HKX := hide KX
  have HKY := hide KY
  have e2 : (w.alloc (.cells #[.int .i64 8, .int .i64 0, .bool false, .slice none 0 0, .string ⟨#[]⟩, .slice none 0 0, .slice none 0 0] 41)).heap.size = w.heap.size + 1 := by simp
  have b2 := heap_alloc_new (w.alloc (.cells #[.int .i64 8, .int .i64 0, .bool false, .slice none 0 0, .string ⟨#[]⟩, .slice none 0 0, .slice none 0 0] 41)) (.cells #[.string ⟨#[]⟩, .int .i64 0, .int .i64 0, .bool false, .slice none 0 0, .slice (some ⟨w.heap.size, 0, none⟩) 1 1, .slice none 0 0] 45)
  rw [e2] at b2
  have S2 : SK w ((w.alloc (.cells #[.int .i64 8, .int .i64 0, .bool false, .slice none 0 0, .string ⟨#[]⟩, .slice none 0 0, .slice none 0 0] 41)).alloc (.cells #[.string ⟨#[]⟩, .int .i64 0, .int .i64 0, .bool false, .slice none 0 0, .slice (some ⟨w.heap.size, 0, none⟩) 1 1, .slice none 0 0] 45)) (w.heap.size + 1) w.heap.size (.slice none 0 0) [] := ⟨b2, ⟨rfl, .inl ⟨rfl, rfl⟩⟩, ((Fr.refl _ _).alloc _).alloc _, by omega⟩
  have HS2 := hide S2
  clear S2 b2 e2 KA KX KY hx1 hx2 hy1 hy2
  go_enter Try.func6, Try.ntmps6
  go_wp2_with (first
    | (have hh := HX1; clear hh; go_at_call 14; refine (HKY.out _).mono ?_; rintro e w' ⟨rfl, hw⟩; replace hw := hw.symm; subst hw)
    | (go_at_call 14; refine (HKX.out _).mono ?_; rintro e w' ⟨rfl, hw⟩; replace hw := hw.symm; subst hw; have HX1 : Hid (True = True) := rfl)
    | (at_builtin; refine wpList_append_lies _ rfl _ _ 42 rfl (w.heap.size + 1 + 1) 47 iI (.agg #[.int .i64 0, .int .i64 0, .int .i64 0]) 3 24 Try.underlying42 hiI hz0 hz1 hz2 rfl (by decide) (.slice none 0 0) 0 [] rfl ⟨rfl, .inl ⟨rfl, rfl⟩⟩ ⟨w.heap.size + 1 + 1, 0, none⟩ 2 2 [.int .i64 1, .int .i64 0, .int .i64 0, .int .i64 15, .int .i64 ((n : Int) + 3), .int .i64 0] rfl rfl (hcells_atg _ #[.int .i64 1, .int .i64 0, .int .i64 0, .int .i64 15, .int .i64 ((n : Int) + 3), .int .i64 0] _ _ (by simp)) (fun u hu => by simp at hu; rcases hu with rfl | rfl | rfl | rfl | rfl <;> rfl) (by decide) (by unfold maxLen; omega) (by omega) (by simp) (w.heap.size + 1 + 1 + 1) (by simp) ?_; intro g2 cap2 w2 hown2 hgrow2 hat2 hlt2; obtain ⟨bb2, cc2, zz2, SS2⟩ := HS2.out.appL (xs := [((1 : Int), (0 : Int), (0 : Int)), (15, (n : Int) + 3, 0)]) hown2 hgrow2; have HSS2 := hide SS2; clear bb2 SS2 hown2 hgrow2 hat2 hlt2))
  clear HKX HKY HX1 HS2 en ek hn0 hk0 cc2 zz2
  generalize w2.setCell ⟨w.heap.size + 1, 4, none⟩ (.slice (some ⟨g2, 0, none⟩) 2 cap2) = w3 at *
  obtain ⟨hb, ehb⟩ : ∃ hb, hb = w.heap.size + 1 := ⟨_, rfl⟩
  rw [← ehb] at HSS2 ⊢
  generalize w.heap.size = kb at *
  clear ehb
  go_loopw [8] (fun u wr => ∃ (i : Nat) (v : Value), u = .int .i64 (i : Int) ∧ i ≤ n ∧ SK w wr hb kb v ([((1 : Int), (0 : Int), (0 : Int)), (15, (n : Int) + 3, 0)] ++ List.replicate i (1, 0, 0))) (fun u _ => n - (intOf u).toNat)
  case atStart => exact ⟨0, _, rfl, Nat.zero_le _, by simpa using HSS2.out⟩
  case round =>
    clear HSS2
    obtain ⟨i, v, rfl, hi, hS⟩ := hrel
    have c4 : wr.cell? ⟨hb, 4, none⟩ = some v := cell_row hS.blk rfl
    have hlt := hS.lt
    have HN : Hid (([((1 : Int), (0 : Int), (0 : Int)), (15, (n : Int) + 3, 0)] ++ List.replicate i ((1 : Int), (0 : Int), (0 : Int))).length = 2 + i) := hide (by simp; omega)
    have hown := hS.own
    obtain ⟨ao, cap, ev⟩ := hS.shape
    rw [HN.out] at ev hown
    subst ev
    have HS := hide hS
    clear hS
    by_cases hil : i < n
    · go_wp2_with (at_builtin; refine wpList_append_lies _ rfl _ _ 42 rfl (hb + 1) 47 iI (.agg #[.int .i64 0, .int .i64 0, .int .i64 0]) 3 24 Try.underlying42 hiI hz0 hz1 hz2 rfl (by decide) _ (2 + i) _ rfl (hown.alloc _) ⟨wr.heap.size, 0, none⟩ 1 1 [.int .i64 1, .int .i64 0, .int .i64 0] rfl rfl (hcells_any _ #[.int .i64 1, .int .i64 0, .int .i64 0] _) (fun u hu => by simp at hu; rcases hu with rfl | rfl <;> rfl) (by decide) (by unfold maxLen; omega) (by omega) (by simp; omega) (wr.heap.size + 1) (by simp) ?_; intro g3 cap3 w3 hown3 hgrow3 hat3 hlt3; obtain ⟨bb3, cc3, zz3, SS3⟩ := HS.out.app (x := (1, 0, 0)) (by rw [HN.out]; exact hown3) hgrow3; rw [HN.out] at SS3; have HSS3 := hide SS3; clear bb3 SS3 hown3 hgrow3 hat3 hlt3)
      exact ⟨⟨i + 1, _, by go_num, hil, by rw [List.replicate_succ', ← List.append_assoc]; exact HSS3.out⟩, by simp [intOf]; omega⟩
    · have ei : i = n := by omega
      subst ei
      clear hil hi
      go_wp2_with (at_builtin; refine wpList_append_lies _ rfl _ _ 42 rfl (hb + 1) 47 iI (.agg #[.int .i64 0, .int .i64 0, .int .i64 0]) 3 24 Try.underlying42 hiI hz0 hz1 hz2 rfl (by decide) _ (2 + i) _ rfl (hown.alloc _) ⟨wr.heap.size, 0, none⟩ 1 1 [.int .i64 14, .int .i64 ((i : Int) + 3 + (k : Int)), .int .i64 0] rfl rfl (hcells_any _ #[.int .i64 14, .int .i64 ((i : Int) + 3 + (k : Int)), .int .i64 0] _) (fun u hu => by simp at hu; rcases hu with rfl | rfl | rfl <;> rfl) (by decide) (by unfold maxLen; omega) (by omega) (by simp; omega) (wr.heap.size + 1) (by simp) ?_; intro g3 cap3 w3 hown3 hgrow3 hat3 hlt3; obtain ⟨bb3, cc3, zz3, SS3⟩ := HS.out.app (x := (14, (i : Int) + 3 + (k : Int), 0)) (by rw [HN.out]; exact hown3) hgrow3; rw [HN.out] at SS3; have HSS3 := hide SS3; clear bb3 SS3 hown3 hgrow3 hat3 hlt3)
      generalize w3.setCell ⟨hb, 4, none⟩ (.slice (some ⟨g3, 0, none⟩) (2 + i + 1) cap3) = w4 at *
      go_loopw [9] (fun u wq => ∃ (j : Nat) (v : Value), u = .int .i64 (j : Int) ∧ j ≤ k ∧ SK w wq hb kb v ([((1 : Int), (0 : Int), (0 : Int)), (15, (i : Int) + 3, 0)] ++ List.replicate i ((1 : Int), (0 : Int), (0 : Int)) ++ [(14, (i : Int) + 3 + (k : Int), 0)] ++ List.replicate j (1, 0, 0))) (fun u _ => k - (intOf u).toNat)
      case atStart => exact ⟨0, _, rfl, Nat.zero_le _, by simpa using HSS3.out⟩
      case round =>
        clear HSS3 HS HN hown
        obtain ⟨j, v, rfl, hj, hS⟩ := hrel
        have c4 : wr.cell? ⟨hb, 4, none⟩ = some v := cell_row hS.blk rfl
        have hlt := hS.lt
        have HN : Hid (([((1 : Int), (0 : Int), (0 : Int)), (15, (i : Int) + 3, 0)] ++ List.replicate i ((1 : Int), (0 : Int), (0 : Int)) ++ [(14, (i : Int) + 3 + (k : Int), 0)] ++ List.replicate j ((1 : Int), (0 : Int), (0 : Int))).length = 2 + i + 1 + j) := hide (by simp; omega)
        have hown := hS.own
        obtain ⟨ao, cap, ev⟩ := hS.shape
        rw [HN.out] at ev hown
        subst ev
        have HS := hide hS
        clear hS
        by_cases hjl : j < k
        · go_wp2_with (at_builtin; refine wpList_append_lies _ rfl _ _ 42 rfl (hb + 1) 47 iI (.agg #[.int .i64 0, .int .i64 0, .int .i64 0]) 3 24 Try.underlying42 hiI hz0 hz1 hz2 rfl (by decide) _ (2 + i + 1 + j) _ rfl (hown.alloc _) ⟨wr.heap.size, 0, none⟩ 1 1 [.int .i64 1, .int .i64 0, .int .i64 0] rfl rfl (hcells_any _ #[.int .i64 1, .int .i64 0, .int .i64 0] _) (fun u hu => by simp at hu; rcases hu with rfl | rfl <;> rfl) (by decide) (by unfold maxLen; omega) (by omega) (by simp; omega) (wr.heap.size + 1) (by simp) ?_; intro g4 cap4 w4 hown4 hgrow4 hat4 hlt4; obtain ⟨bb4, cc4, zz4, SS4⟩ := HS.out.app (x := (1, 0, 0)) (by rw [HN.out]; exact hown4) hgrow4; rw [HN.out] at SS4; have HSS4 := hide SS4; clear bb4 SS4 hown4 hgrow4 hat4 hlt4)
          exact ⟨⟨j + 1, _, by go_num, hjl, by rw [List.replicate_succ', ← List.append_assoc]; exact HSS4.out⟩, by simp [intOf]; omega⟩
        · have ej : j = k := by omega
          subst ej
          clear hjl hj
          by_cases hnk : i = j
          · have hR : Hid (programM 1 (fun _ => mkPR 1 (codeB i j)) = (0, 0, 0)) := by
              have := program_branches hn1 hn2 hk1 hk2
              rw [if_pos hnk] at this
              exact this
            have eq0 : ((i : Int) == (j : Int)) = true := by rw [hnk]; simp
            clear hnk
            go_wp2_with (first
              | (at_builtin; refine wpList_append_lies _ rfl _ _ 42 rfl (hb + 1) 47 iI (.agg #[.int .i64 0, .int .i64 0, .int .i64 0]) 3 24 Try.underlying42 hiI hz0 hz1 hz2 rfl (by decide) _ (2 + i + 1 + j) _ rfl (hown.alloc _) ⟨wr.heap.size, 0, none⟩ 1 1 [.int .i64 13, .int .i64 0, .int .i64 0] rfl rfl (hcells_any _ #[.int .i64 13, .int .i64 0, .int .i64 0] _) (fun u hu => by simp at hu; rcases hu with rfl | rfl <;> rfl) (by decide) (by unfold maxLen; omega) (by omega) (by simp; omega) (wr.heap.size + 1) (by simp) ?_; intro g5 cap5 w5 hown5 hgrow5 hat5 hlt5; obtain ⟨bb5, cc5, zz5, SS5⟩ := HS.out.app (x := (13, 0, 0)) (by rw [HN.out]; exact hown5) hgrow5; rw [HN.out] at SS5; have q0 : w5.cell? ⟨hb, 0, none⟩ = some (.string ⟨#[]⟩) := cell_row bb5 rfl; have q1 : w5.cell? ⟨hb, 1, none⟩ = some (.int .i64 0) := cell_row bb5 rfl; have q2 : w5.cell? ⟨hb, 2, none⟩ = some (.int .i64 0) := cell_row bb5 rfl; have q3 : w5.cell? ⟨hb, 3, none⟩ = some (.bool false) := cell_row bb5 rfl; have q5 : w5.cell? ⟨hb, 5, none⟩ = some (.slice (some ⟨kb, 0, none⟩) 1 1) := cell_row bb5 rfl; have q6 : w5.cell? ⟨hb, 6, none⟩ = some (.slice none 0 0) := cell_row bb5 rfl; have HC : Hid (SK w (w5.setCell ⟨hb, 4, none⟩ (.slice (some ⟨g5, 0, none⟩) (2 + i + 1 + j + 1) cap5)) hb kb (.slice (some ⟨g5, 0, none⟩) (2 + i + 1 + j + 1) cap5) (codeB i j)) := (by unfold Hid codeB; simpa using SS5); have KP := HC.out.prog (small_B hn2 hk2) (0, 0, 0) hR.out; rw [show (w5.setCell ⟨hb, 4, none⟩ (.slice (some ⟨g5, 0, none⟩) (2 + i + 1 + j + 1) cap5)).heap.size = w5.heap.size from (by simp [World.setCell])] at KP; have HKP := hide KP; clear KP; have HSS5 := hide SS5; clear bb5 SS5 hown5 hgrow5 hat5 hlt5)
              | (go_at_call 7; refine HKP.out.mono ?_; rintro e w6 ⟨rfl, F6⟩; have HF6 := hide (HC.out.fr.trans F6 (fun _ _ e => e)); clear F6)
              | (go_at_call 10; refine (HKA.out _).mono ?_; rintro e w8 ⟨rfl, F8⟩))
            go_ret
            exact ⟨rfl, HF6.out.trans F8 (fun _ _ e => e)⟩
          · have hR : Hid (programM 1 (fun _ => mkPR 1 (codeB i j)) = (0, i + 2 + j, 31)) := by
              have := program_branches hn1 hn2 hk1 hk2
              rw [if_neg hnk] at this
              exact this
            go_wp2_with (first
              | (at_builtin; refine wpList_append_lies _ rfl _ _ 42 rfl (hb + 1) 47 iI (.agg #[.int .i64 0, .int .i64 0, .int .i64 0]) 3 24 Try.underlying42 hiI hz0 hz1 hz2 rfl (by decide) _ (2 + i + 1 + j) _ rfl (hown.alloc _) ⟨wr.heap.size, 0, none⟩ 1 1 [.int .i64 13, .int .i64 0, .int .i64 0] rfl rfl (hcells_any _ #[.int .i64 13, .int .i64 0, .int .i64 0] _) (fun u hu => by simp at hu; rcases hu with rfl | rfl <;> rfl) (by decide) (by unfold maxLen; omega) (by omega) (by simp; omega) (wr.heap.size + 1) (by simp) ?_; intro g5 cap5 w5 hown5 hgrow5 hat5 hlt5; obtain ⟨bb5, cc5, zz5, SS5⟩ := HS.out.app (x := (13, 0, 0)) (by rw [HN.out]; exact hown5) hgrow5; rw [HN.out] at SS5; have q0 : w5.cell? ⟨hb, 0, none⟩ = some (.string ⟨#[]⟩) := cell_row bb5 rfl; have q1 : w5.cell? ⟨hb, 1, none⟩ = some (.int .i64 0) := cell_row bb5 rfl; have q2 : w5.cell? ⟨hb, 2, none⟩ = some (.int .i64 0) := cell_row bb5 rfl; have q3 : w5.cell? ⟨hb, 3, none⟩ = some (.bool false) := cell_row bb5 rfl; have q5 : w5.cell? ⟨hb, 5, none⟩ = some (.slice (some ⟨kb, 0, none⟩) 1 1) := cell_row bb5 rfl; have q6 : w5.cell? ⟨hb, 6, none⟩ = some (.slice none 0 0) := cell_row bb5 rfl; have HC : Hid (SK w (w5.setCell ⟨hb, 4, none⟩ (.slice (some ⟨g5, 0, none⟩) (2 + i + 1 + j + 1) cap5)) hb kb (.slice (some ⟨g5, 0, none⟩) (2 + i + 1 + j + 1) cap5) (codeB i j)) := (by unfold Hid codeB; simpa using SS5); have KP := HC.out.prog (small_B hn2 hk2) (0, i + 2 + j, 31) hR.out; rw [show (w5.setCell ⟨hb, 4, none⟩ (.slice (some ⟨g5, 0, none⟩) (2 + i + 1 + j + 1) cap5)).heap.size = w5.heap.size from (by simp [World.setCell])] at KP; have HKP := hide KP; clear KP; have HSS5 := hide SS5; clear bb5 SS5 hown5 hgrow5 hat5 hlt5)
              | (go_at_call 7; refine HKP.out.mono ?_; rintro e w6 ⟨rfl, F6⟩; have HF6 := hide (HC.out.fr.trans F6 (fun _ _ e => e)); clear F6)
              | (go_at_call 10; refine (HKA.out _).mono ?_; rintro e w8 ⟨rfl, F8⟩))
            go_ret
            exact ⟨rfl, HF6.out.trans F8 (fun _ _ e => e)⟩

theorem checkBranches_top (x y : Int) (w : World) (hx1 : -9223372036854775808 ≤ x) (hx2 : x ≤ 9223372036854775807) (hy1 : -9223372036854775808 ≤ y) (hy2 : y ≤ 9223372036854775807) :
    Calls Try.prog 6 #[.int .i64 x, .int .i64 y] w fun e w' => e = .returned (.bool true) ∧ Below w.heap.size w w' :=
  (checkBranches_any x y w hx1 hx2 hy1 hy2).mono fun _ _ h => ⟨h.1, h.2.below (Nat.le_refl _) (fun _ _ e => e)⟩

end Go.Proofs.Ytdbmmbblcpikeaa
