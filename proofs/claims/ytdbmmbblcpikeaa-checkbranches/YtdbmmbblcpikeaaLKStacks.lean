/-
  What is proved here: CheckStacks.
-/
import Derived.Test.YtdbmmbblcpikeaaKLaw
namespace Go.Proofs.Ytdbmmbblcpikeaa
open Go Go.RowKit

theorem place_num (v : Int) (n : Nat) (hn : 1 ≤ n) : (v.tmod n < 0 → v.tmod n + n = ((v % (n : Int)).toNat : Int)) ∧ (0 ≤ v.tmod n → v.tmod n = ((v % (n : Int)).toNat : Int)) ∧ - (n : Int) < v.tmod n := by
  have hm1 : 0 ≤ v % (n : Int) := Int.emod_nonneg _ (by omega)
  have hm2 : v % (n : Int) < n := Int.emod_lt_of_pos _ (by omega)
  have e := @Int.tmod_eq_emod v n
  by_cases hv : 0 ≤ v ∨ (n : Int) ∣ v
  · rw [if_pos hv] at e
    simp only [Int.natCast_zero, Int.sub_zero] at e
    refine ⟨fun h => by omega, fun _ => by omega, by omega⟩
  · rw [if_neg hv, Int.natAbs_natCast] at e
    have : v % (n : Int) ≠ 0 := fun h => hv (.inr (Int.dvd_of_emod_eq_zero h))
    refine ⟨fun h => by omega, fun _ => by omega, by omega⟩

set_option maxRecDepth 20000 in
theorem place_at (v : Int) (n : Nat) (w : World) (h1 : 1 ≤ n) (h2 : n ≤ 4611686018427387903) (_hv1 : -9223372036854775808 ≤ v) (_hv2 : v ≤ 9223372036854775807) :
    Calls Try.prog 14 #[.int .i64 v, .int .i64 (n : Int)] w fun e w' => e = .returned (.int .i64 ((v % (n : Int)).toNat : Int)) ∧ w' = w := by
  have e1 : ((n : Int) != 0) = true := by rw [bne_iff_ne]; omega
  obtain ⟨p1, p2, p3⟩ := place_num v n h1
  have P1 := hide p1
  have P2 := hide p2
  clear p1 p2
  go_enter Try.func14, Try.ntmps14
  go_wp2
  · go_ret
    exact ⟨retI (P1.out ‹_›), rfl⟩
  · go_ret
    exact ⟨retI (P2.out ‹_›), rfl⟩
theorem place_some (v : Int) (n : Nat) (h1 : 1 ≤ n) (h2 : n ≤ 4611686018427387903) (hv1 : -9223372036854775808 ≤ v) (hv2 : v ≤ 9223372036854775807) :
    ∃ k : Nat, k < n ∧ ∀ w, Calls Try.prog 14 #[.int .i64 v, .int .i64 (n : Int)] w fun e w' => e = .returned (.int .i64 (k : Int)) ∧ w' = w :=
  ⟨(v % (n : Int)).toNat, by
    have hm1 : 0 ≤ v % (n : Int) := Int.emod_nonneg _ (by omega)
    have hm2 : v % (n : Int) < n := Int.emod_lt_of_pos _ (by omega)
    omega, fun w => place_at v n w h1 h2 hv1 hv2⟩

theorem infoIns : (Try.prog.info? 47).map (fun i => (i.zero, i.size, i.bytes)) = some (some (.agg #[.int .i64 0, .int .i64 0, .int .i64 0]), 3, 24) := by kernel_rfl
theorem hcells_any (w : World) (c : Array Value) (E : TypeId) : ∀ j u, c.toList[j]? = some u → (w.alloc (.cells c E)).cell? ((⟨w.heap.size, 0, none⟩ : Addr).add j) = some u := by
  intro j u hj
  rw [Addr.add_lit, cell_of_row _ _ _ _ _ _ (heap_alloc_new w _), Nat.zero_add]
  simpa using hj

/-- A proto that is being made: its code so far. -/
structure SK (w0 wr : World) (hb kb : Nat) (v : Value) (l : List (Int × Int × Int)) : Prop where
  blk : wr.heap[hb]? = some (.cells (prC v (some ⟨kb, 0, none⟩) 1 1) 45 (0, 0))
  own : wr.ownsRow (hb + 1) 47 3 v l.length (cellsL l)
  fr : Fr (fun _ => False) w0 wr
  ge : w0.heap.size ≤ hb
theorem SK.lt {w0 wr : World} {hb kb : Nat} {v : Value} {l : List (Int × Int × Int)} (h : SK w0 wr hb kb v l) : hb < wr.heap.size := (Array.getElem?_eq_some_iff.1 h.blk).1
theorem SK.shape {w0 wr : World} {hb kb : Nat} {v : Value} {l : List (Int × Int × Int)} (h : SK w0 wr hb kb v l) : ∃ ao cap, v = .slice ao l.length cap := by
  rcases h.own.2 with ⟨e, e2⟩ | ⟨g, cap, cur, e, _⟩
  · exact ⟨none, 0, by rw [e, e2]⟩
  · exact ⟨_, _, e⟩
theorem SK.nv {w0 wr : World} {hb kb : Nat} {v : Value} {l : List (Int × Int × Int)} (h : SK w0 wr hb kb v l) : ∀ g, v.ownBlock = some g → hb < g := by
  intro g hg
  rcases h.own.2 with ⟨rfl, e2⟩ | ⟨g', cap, cur, rfl, hB, _⟩
  · cases hg
  · have e : g' = g := by simpa [Value.ownBlock] using hg
    omega
theorem SK.app {w0 wr w2 : World} {hb kb g cap : Nat} {v : Value} {l : List (Int × Int × Int)} {o : Obj} {x : Int × Int × Int} (h : SK w0 wr hb kb v l) (hown : w2.ownsRow (hb + 1) 47 3 (.slice (some ⟨g, 0, none⟩) (l.length + 1) cap) (l.length + 1) (cellsL l ++ [.int .i64 x.1, .int .i64 x.2.1, .int .i64 x.2.2])) (hgrow : (wr.alloc o).grownBy w2 v.ownBlock) :
    w2.heap[hb]? = some (.cells (prC v (some ⟨kb, 0, none⟩) 1 1) 45 (0, 0)) ∧ w2.cell? ⟨hb, 4, none⟩ = some v ∧ w2.frozen? ⟨hb, 4, none⟩ = false ∧ SK w0 (w2.setCell ⟨hb, 4, none⟩ (.slice (some ⟨g, 0, none⟩) (l.length + 1) cap)) hb kb (.slice (some ⟨g, 0, none⟩) (l.length + 1) cap) (l ++ [x]) := by
  have hb2 : w2.heap[hb]? = some (.cells (prC v (some ⟨kb, 0, none⟩) 1 1) 45 (0, 0)) :=
    (hgrow.block hb (by have := h.lt; simp; omega) (fun e => by have := h.nv hb e.symm; omega)).trans ((heap_alloc_old wr o h.lt).trans h.blk)
  rw [cellsL_snoc] at hown
  have hg : hb < g := by
    rcases hown.2 with ⟨e, _⟩ | ⟨g', cap', cur, e, hB, _⟩
    · cases e
    · cases e; omega
  refine ⟨hb2, cell_row hb2 rfl, frozen_of_row w2 hb 4 _ _ hb2, ?_, ?_, ?_, h.ge⟩
  · exact heap_setCell_same w2 hb 4 _ _ _ hb2
  · rw [List.length_append, show [x].length = 1 from rfl]
    obtain ⟨k1, k2⟩ := hown
    refine ⟨by rw [k1], ?_⟩
    rcases k2 with ⟨e, _⟩ | ⟨g', cap', cur, e, r1, r2, r3, r4, r5, r6⟩
    · cases e
    · cases e
      exact .inr ⟨g, cap, cur, rfl, r1, (heap_setCell_other _ _ _ _ (Nat.ne_of_gt hg)).trans r2, r3, r4, r5, r6⟩
  · refine ((h.fr.alloc o).grow hgrow (fun k hk e => ?_)).setCell (fun hlt => ?_) _ _
    · have := h.nv k e; have := h.ge; omega
    · have := h.ge; omega

theorem SK.new {w0 wr w' : World} {hb kb : Nat} {v : Value} {l : List (Int × Int × Int)} (h : SK w0 wr hb kb v l) (hf : Fr (fun _ => False) wr w') : SK w0 w' hb kb v l := by
  refine ⟨(hf.block hb h.lt (fun e => e)).trans h.blk, ?_, h.fr.trans hf (fun _ _ e => e), h.ge⟩
  obtain ⟨k1, k2⟩ := h.own
  refine ⟨k1, ?_⟩
  rcases k2 with e | ⟨g', cap', cur, e, r1, r2, r3, r4, r5, r6⟩
  · exact .inl e
  · exact .inr ⟨g', cap', cur, e, r1, (hf.block g' (Array.getElem?_eq_some_iff.1 r2).1 (fun e => e)).trans r2, r3, r4, r5, r6⟩
theorem SK.cells {w0 wr : World} {hb kb : Nat} {v : Value} {l : List (Int × Int × Int)} (h : SK w0 wr hb kb v l) : wr.cell? ⟨hb, 0, none⟩ = some (.string ⟨#[]⟩) ∧ wr.cell? ⟨hb, 1, none⟩ = some (.int .i64 0) ∧ wr.cell? ⟨hb, 2, none⟩ = some (.int .i64 0) ∧ wr.cell? ⟨hb, 3, none⟩ = some (.bool false) ∧ wr.cell? ⟨hb, 4, none⟩ = some v ∧ wr.cell? ⟨hb, 5, none⟩ = some (.slice (some ⟨kb, 0, none⟩) 1 1) ∧ wr.cell? ⟨hb, 6, none⟩ = some (.slice none 0 0) :=
  ⟨cell_row h.blk rfl, cell_row h.blk rfl, cell_row h.blk rfl, cell_row h.blk rfl, cell_row h.blk rfl, cell_row h.blk rfl, cell_row h.blk rfl⟩
/-- The two calls, of a proto that was made. -/
theorem SK.prog {w0 wr : World} {hb kb : Nat} {v : Value} {l : List (Int × Int × Int)} (h : SK w0 wr hb kb v l) (hl : Small l) (R : Nat × Nat × Nat) (hR : programM 1 (fun _ => mkPR 1 l) = R) :
    Calls Try.prog 7 #[.slice (some ⟨wr.heap.size, 0, none⟩) 1 1] (wr.alloc (.cells (prC v (some ⟨kb, 0, none⟩) 1 1) 45)) fun e w' => e = .returned (.tuple #[.int .i64 (R.1 : Int), .int .i64 (R.2.1 : Int), .int .i64 (R.2.2 : Int)]) ∧ Fr (fun _ => False) wr w' := by
  refine (prog_one _ wr.heap.size 1 1 v (some ⟨kb, 0, none⟩) 45 l R (heap_alloc_new wr _) ((CodeIn.of h.own).new ((Fr.refl _ _).alloc _)) hl (by omega) hR).mono ?_
  rintro e w' ⟨rfl, F⟩
  exact ⟨rfl, Fr.trans (S := fun _ => False) ((Fr.refl _ _).alloc _) F (fun _ _ e => e)⟩
theorem SK.deps_no {w0 wr : World} {hb kb : Nat} {v : Value} {l : List (Int × Int × Int)} (h : SK w0 wr hb kb v l) (hl : Small l) (hR : (programM 1 (fun _ => mkPR 1 l)).2.2 ≠ 0) :
    Calls Try.prog 12 #[.slice (some ⟨wr.heap.size, 0, none⟩) 1 1, .int .i64 0] (wr.alloc (.cells (prC v (some ⟨kb, 0, none⟩) 1 1) 45)) fun e w' => e = .returned (.slice none 0 0) ∧ Fr (fun _ => False) wr w' := by
  obtain ⟨Q, hQ⟩ := protos_one (nc := 1) (kc := 1) (heap_alloc_new wr _) ((CodeIn.of h.own).new ((Fr.refl _ _).alloc _)) hl (by omega)
  refine (depths_no _ _ 1 1 _ Q hQ (by omega) (by omega) 0 (.inr (.inr hR))).mono ?_
  rintro e w' ⟨rfl, F⟩
  exact ⟨rfl, Fr.trans (S := fun _ => False) ((Fr.refl _ _).alloc _) F (fun _ _ e => e)⟩
theorem SK.deps_yes {w0 wr : World} {hb kb : Nat} {v : Value} {l : List (Int × Int × Int)} (h : SK w0 wr hb kb v l) (hl : Small l) (hR : (programM 1 (fun _ => mkPR 1 l)).2.2 = 0) (d : Nat → Int) (hd : ∀ fr, (walkM 1 fr 0 (mkPR 1 l)).2.2 = d) :
    Calls Try.prog 12 #[.slice (some ⟨wr.heap.size, 0, none⟩) 1 1, .int .i64 0] (wr.alloc (.cells (prC v (some ⟨kb, 0, none⟩) 1 1) 45)) fun e w' => ∃ db, e = .returned (.slice (some ⟨db, 0, none⟩) l.length l.length) ∧ DepAt w' db l.length d ∧ Fr (fun _ => False) wr w' := by
  obtain ⟨Q, hQ⟩ := protos_one (nc := 1) (kc := 1) (heap_alloc_new wr _) ((CodeIn.of h.own).new ((Fr.refl _ _).alloc _)) hl (by omega)
  refine (depths_yes _ _ 1 1 _ Q hQ (by omega) (by omega) 0 (by omega) hR).mono ?_
  rintro e w' ⟨db, rfl, hD, F⟩
  rw [hd] at hD
  exact ⟨db, rfl, hD, Fr.trans (S := fun _ => False) ((Fr.refl _ _).alloc _) F (fun _ _ e => e)⟩

theorem small_S (n k : Nat) : Small (codeS n k) := by
  intro x hx
  simp [codeS, List.mem_replicate] at hx
  rcases hx with ⟨_, rfl⟩ | ⟨_, rfl⟩ | rfl <;> decide

set_option maxHeartbeats 4000000 in
set_option maxRecDepth 20000 in
theorem checkStacks_any (x y : Int) (w : World) (hx1 : -9223372036854775808 ≤ x) (hx2 : x ≤ 9223372036854775807) (hy1 : -9223372036854775808 ≤ y) (hy2 : y ≤ 9223372036854775807) :
    Calls Try.prog 5 #[.int .i64 x, .int .i64 y] w fun e w' => e = .returned (.bool true) ∧ Fr (fun _ => False) w w' := by
  obtain ⟨iI, hiI, hz0, hz1, hz2⟩ := info_parts infoIns
  have KA := fun (W : World) => awake_any W
  obtain ⟨n, hn, KX⟩ := place_some x 40 (by omega) (by omega) hx1 hx2
  obtain ⟨k, hk, KY⟩ := place_some y 40 (by omega) (by omega) hy1 hy2
  have HKA := hide KA
  have HKX := hide KX
  have HKY := hide KY
  clear KA KX KY hx1 hx2 hy1 hy2
  go_enter Try.func5, Try.ntmps5
  go_wp2_with (first
    | (have hh := HX1; clear hh; go_at_call 14; refine (HKY.out _).mono ?_; rintro e w' ⟨rfl, hw⟩; replace hw := hw.symm; subst hw)
    | (go_at_call 14; refine (HKX.out _).mono ?_; rintro e w' ⟨rfl, hw⟩; replace hw := hw.symm; subst hw; have HX1 : Hid (True = True) := rfl))
  clear HKX HKY HX1
  have e2 : (w.alloc (.cells #[.int .i64 8, .int .i64 0, .bool false, .slice none 0 0, .string ⟨#[]⟩, .slice none 0 0, .slice none 0 0] 41)).heap.size = w.heap.size + 1 := by simp
  have b2 := heap_alloc_new (w.alloc (.cells #[.int .i64 8, .int .i64 0, .bool false, .slice none 0 0, .string ⟨#[]⟩, .slice none 0 0, .slice none 0 0] 41)) (.cells #[.string ⟨#[]⟩, .int .i64 0, .int .i64 0, .bool false, .slice none 0 0, .slice (some ⟨w.heap.size, 0, none⟩) 1 1, .slice none 0 0] 45)
  rw [e2] at b2
  have S2 : SK w ((w.alloc (.cells #[.int .i64 8, .int .i64 0, .bool false, .slice none 0 0, .string ⟨#[]⟩, .slice none 0 0, .slice none 0 0] 41)).alloc (.cells #[.string ⟨#[]⟩, .int .i64 0, .int .i64 0, .bool false, .slice none 0 0, .slice (some ⟨w.heap.size, 0, none⟩) 1 1, .slice none 0 0] 45)) (w.heap.size + 1) w.heap.size (.slice none 0 0) [] := ⟨b2, ⟨rfl, .inl ⟨rfl, rfl⟩⟩, ((Fr.refl _ _).alloc _).alloc _, by omega⟩
  have HS2 := hide S2
  clear S2 b2 e2
  generalize (w.alloc (.cells #[.int .i64 8, .int .i64 0, .bool false, .slice none 0 0, .string ⟨#[]⟩, .slice none 0 0, .slice none 0 0] 41)).alloc (.cells #[.string ⟨#[]⟩, .int .i64 0, .int .i64 0, .bool false, .slice none 0 0, .slice (some ⟨w.heap.size, 0, none⟩) 1 1, .slice none 0 0] 45) = w2 at *
  obtain ⟨hb, ehb⟩ : ∃ hb, hb = w.heap.size + 1 := ⟨_, rfl⟩
  rw [← ehb] at HS2 ⊢
  generalize w.heap.size = kb at *
  clear ehb
  go_loopw [8] (fun u wr => ∃ (i : Nat) (v : Value), u = .int .i64 (i : Int) ∧ i ≤ n ∧ SK w wr hb kb v (List.replicate i (1, 0, 0))) (fun u _ => n - (intOf u).toNat)
  case atStart => exact ⟨0, _, rfl, Nat.zero_le _, HS2.out⟩
  case round =>
    clear HS2
    obtain ⟨i, v, rfl, hi, hS⟩ := hrel
    by_cases hil : i < n
    · have c4 : wr.cell? ⟨hb, 4, none⟩ = some v := cell_row hS.blk rfl
      have hlt := hS.lt
      have HN : Hid ((List.replicate i ((1 : Int), (0 : Int), (0 : Int))).length = i) := hide (by simp)
      have hown := hS.own
      obtain ⟨ao, cap, ev⟩ := hS.shape
      rw [HN.out] at ev hown
      subst ev
      have HS := hide hS
      clear hS
      go_wp2_with (at_builtin; refine wpList_append_lies _ rfl _ _ 42 rfl (hb + 1) 47 iI (.agg #[.int .i64 0, .int .i64 0, .int .i64 0]) 3 24 Try.underlying42 hiI hz0 hz1 hz2 rfl (by decide) _ i _ rfl (hown.alloc _) ⟨wr.heap.size, 0, none⟩ 1 1 [.int .i64 1, .int .i64 0, .int .i64 0] rfl rfl (hcells_any _ #[.int .i64 1, .int .i64 0, .int .i64 0] _) (fun u hu => by simp at hu; rcases hu with rfl | rfl <;> rfl) (by decide) (by unfold maxLen; omega) (by omega) (by simp; omega) (wr.heap.size + 1) (by simp) ?_; intro g3 cap3 w3 hown3 hgrow3 hat3 hlt3; obtain ⟨bb3, cc3, zz3, SS3⟩ := HS.out.app (x := (1, 0, 0)) (by rw [HN.out]; exact hown3) hgrow3; rw [HN.out] at SS3; have HSS3 := hide SS3; clear bb3 SS3 hown3 hgrow3 hat3 hlt3)
      exact ⟨⟨i + 1, _, by go_num, hil, by rw [List.replicate_succ']; exact HSS3.out⟩, by simp [intOf]; omega⟩
    · have ei : i = n := by omega
      subst ei
      have HS := hide hS
      clear hS hil hi
      go_wp2
      go_loopw [9] (fun u wq => ∃ (j : Nat) (v : Value), u = .int .i64 (j : Int) ∧ j ≤ k ∧ SK w wq hb kb v (List.replicate i (1, 0, 0) ++ List.replicate j (17, 0, 0))) (fun u _ => k - (intOf u).toNat)
      case atStart => exact ⟨0, _, rfl, Nat.zero_le _, by simpa using HS.out⟩
      case round =>
        clear HS
        obtain ⟨j, v, rfl, hj, hS⟩ := hrel
        have c4 : wr.cell? ⟨hb, 4, none⟩ = some v := cell_row hS.blk rfl
        have hlt := hS.lt
        have HN : Hid ((List.replicate i ((1 : Int), (0 : Int), (0 : Int)) ++ List.replicate j ((17 : Int), (0 : Int), (0 : Int))).length = i + j) := hide (by simp)
        have hown := hS.own
        obtain ⟨ao, cap, ev⟩ := hS.shape
        rw [HN.out] at ev hown
        subst ev
        have HS := hide hS
        clear hS
        by_cases hjl : j < k
        · go_wp2_with (at_builtin; refine wpList_append_lies _ rfl _ _ 42 rfl (hb + 1) 47 iI (.agg #[.int .i64 0, .int .i64 0, .int .i64 0]) 3 24 Try.underlying42 hiI hz0 hz1 hz2 rfl (by decide) _ (i + j) _ rfl (hown.alloc _) ⟨wr.heap.size, 0, none⟩ 1 1 [.int .i64 17, .int .i64 0, .int .i64 0] rfl rfl (hcells_any _ #[.int .i64 17, .int .i64 0, .int .i64 0] _) (fun u hu => by simp at hu; rcases hu with rfl | rfl <;> rfl) (by decide) (by unfold maxLen; omega) (by omega) (by simp; omega) (wr.heap.size + 1) (by simp) ?_; intro g4 cap4 w4 hown4 hgrow4 hat4 hlt4; obtain ⟨bb4, cc4, zz4, SS4⟩ := HS.out.app (x := (17, 0, 0)) (by rw [HN.out]; exact hown4) hgrow4; rw [HN.out] at SS4; have HSS4 := hide SS4; clear bb4 SS4 hown4 hgrow4 hat4 hlt4)
          exact ⟨⟨j + 1, _, by go_num, hjl, by rw [List.replicate_succ', ← List.append_assoc]; exact HSS4.out⟩, by simp [intOf]; omega⟩
        · have ej : j = k := by omega
          subst ej
          clear hjl hj
          by_cases hnk : i ≤ j
          · have hR : Hid (programM 1 (fun _ => mkPR 1 (List.replicate i (1, 0, 0) ++ (List.replicate j (17, 0, 0) ++ [(13, 0, 0)]))) = (0, 2 * i, 31)) := by
              have := program_stacks (n := i) (k := j) (by omega) (by omega)
              rw [if_pos hnk] at this
              exact this
            go_wp2_with (first
              | (at_builtin; refine wpList_append_lies _ rfl _ _ 42 rfl (hb + 1) 47 iI (.agg #[.int .i64 0, .int .i64 0, .int .i64 0]) 3 24 Try.underlying42 hiI hz0 hz1 hz2 rfl (by decide) _ (i + j) _ rfl (hown.alloc _) ⟨wr.heap.size, 0, none⟩ 1 1 [.int .i64 13, .int .i64 0, .int .i64 0] rfl rfl (hcells_any _ #[.int .i64 13, .int .i64 0, .int .i64 0] _) (fun u hu => by simp at hu; rcases hu with rfl | rfl <;> rfl) (by decide) (by unfold maxLen; omega) (by omega) (by simp; omega) (wr.heap.size + 1) (by simp) ?_; intro g5 cap5 w5 hown5 hgrow5 hat5 hlt5; obtain ⟨bb5, cc5, zz5, SS5⟩ := HS.out.app (x := (13, 0, 0)) (by rw [HN.out]; exact hown5) hgrow5; rw [HN.out, List.append_assoc] at SS5; have q0 : w5.cell? ⟨hb, 0, none⟩ = some (.string ⟨#[]⟩) := cell_row bb5 rfl; have q1 : w5.cell? ⟨hb, 1, none⟩ = some (.int .i64 0) := cell_row bb5 rfl; have q2 : w5.cell? ⟨hb, 2, none⟩ = some (.int .i64 0) := cell_row bb5 rfl; have q3 : w5.cell? ⟨hb, 3, none⟩ = some (.bool false) := cell_row bb5 rfl; have q5 : w5.cell? ⟨hb, 5, none⟩ = some (.slice (some ⟨kb, 0, none⟩) 1 1) := cell_row bb5 rfl; have q6 : w5.cell? ⟨hb, 6, none⟩ = some (.slice none 0 0) := cell_row bb5 rfl; have KP := SS5.prog (small_S i j) (0, 2 * i, 31) hR.out; rw [show (w5.setCell ⟨hb, 4, none⟩ (.slice (some ⟨g5, 0, none⟩) (i + j + 1) cap5)).heap.size = w5.heap.size from (by simp [World.setCell])] at KP; have HKP := hide KP; have HSS5 := hide SS5; clear KP bb5 SS5 hown5 hgrow5 hat5 hlt5)
              | (go_at_call 7; refine HKP.out.mono ?_; rintro e w6 ⟨rfl, F6⟩; have S6 := HSS5.out.new F6; obtain ⟨p0, p1, p2, p3, p4, p5, p6⟩ := S6.cells; have HS6 := hide S6; clear S6 F6 q0 q1 q2 q3 q5 q6)
              | (go_at_call 12; refine (HS6.out.deps_no (small_S i j) (by rw [hR.out]; exact Nat.succ_ne_zero _)).mono ?_; rintro e w7 ⟨rfl, F7⟩; have HF7 := hide (HS6.out.fr.trans F7 (fun _ _ e => e)); clear F7)
              | (go_at_call 10; refine (HKA.out _).mono ?_; rintro e w8 ⟨rfl, F8⟩))
            go_ret
            exact ⟨rfl, HF7.out.trans F8 (fun _ _ e => e)⟩
          · have hR : Hid (programM 1 (fun _ => mkPR 1 (List.replicate i (1, 0, 0) ++ (List.replicate j (17, 0, 0) ++ [(13, 0, 0)]))) = (0, 0, 0)) := by
              have := program_stacks (n := i) (k := j) (by omega) (by omega)
              rw [if_neg hnk] at this
              exact this
            have hD : Hid (∀ fr, (walkM 1 fr 0 (mkPR 1 (List.replicate i (1, 0, 0) ++ (List.replicate j (17, 0, 0) ++ [(13, 0, 0)])))).2.2 = dS i (i + j)) := fun fr => by
              have := walk_stacks (n := i) (k := j) (fr := fr) (by omega) (by omega)
              rw [if_neg hnk] at this
              exact congrArg (fun x => x.2.2) this
            have hLn : Hid ((List.replicate i ((1 : Int), (0 : Int), (0 : Int)) ++ (List.replicate j ((17 : Int), (0 : Int), (0 : Int)) ++ [((13 : Int), (0 : Int), (0 : Int))])).length = i + j + 1) := codeS_len i j
            go_wp2_with (first
              | (at_builtin; refine wpList_append_lies _ rfl _ _ 42 rfl (hb + 1) 47 iI (.agg #[.int .i64 0, .int .i64 0, .int .i64 0]) 3 24 Try.underlying42 hiI hz0 hz1 hz2 rfl (by decide) _ (i + j) _ rfl (hown.alloc _) ⟨wr.heap.size, 0, none⟩ 1 1 [.int .i64 13, .int .i64 0, .int .i64 0] rfl rfl (hcells_any _ #[.int .i64 13, .int .i64 0, .int .i64 0] _) (fun u hu => by simp at hu; rcases hu with rfl | rfl <;> rfl) (by decide) (by unfold maxLen; omega) (by omega) (by simp; omega) (wr.heap.size + 1) (by simp) ?_; intro g5 cap5 w5 hown5 hgrow5 hat5 hlt5; obtain ⟨bb5, cc5, zz5, SS5⟩ := HS.out.app (x := (13, 0, 0)) (by rw [HN.out]; exact hown5) hgrow5; rw [HN.out, List.append_assoc] at SS5; have q0 : w5.cell? ⟨hb, 0, none⟩ = some (.string ⟨#[]⟩) := cell_row bb5 rfl; have q1 : w5.cell? ⟨hb, 1, none⟩ = some (.int .i64 0) := cell_row bb5 rfl; have q2 : w5.cell? ⟨hb, 2, none⟩ = some (.int .i64 0) := cell_row bb5 rfl; have q3 : w5.cell? ⟨hb, 3, none⟩ = some (.bool false) := cell_row bb5 rfl; have q5 : w5.cell? ⟨hb, 5, none⟩ = some (.slice (some ⟨kb, 0, none⟩) 1 1) := cell_row bb5 rfl; have q6 : w5.cell? ⟨hb, 6, none⟩ = some (.slice none 0 0) := cell_row bb5 rfl; have KP := SS5.prog (small_S i j) (0, 0, 0) hR.out; rw [show (w5.setCell ⟨hb, 4, none⟩ (.slice (some ⟨g5, 0, none⟩) (i + j + 1) cap5)).heap.size = w5.heap.size from (by simp [World.setCell])] at KP; have HKP := hide KP; have HSS5 := hide SS5; clear KP bb5 SS5 hown5 hgrow5 hat5 hlt5)
              | (go_at_call 7; refine HKP.out.mono ?_; rintro e w6 ⟨rfl, F6⟩; have S6 := HSS5.out.new F6; obtain ⟨p0, p1, p2, p3, p4, p5, p6⟩ := S6.cells; have HS6 := hide S6; clear S6 F6 q0 q1 q2 q3 q5 q6)
              | (go_at_call 12; refine (HS6.out.deps_yes (small_S i j) (by rw [hR.out]) (dS i (i + j)) hD.out).mono ?_; rw [hLn.out]; rintro e w7 ⟨db, rfl, D7, F7⟩; have HF7 := hide (HS6.out.fr.trans F7 (fun _ _ e => e)); have HD7 := hide D7; clear F7 D7))
            go_loop [14] (fun u => ∃ m : Nat, u = .int .i64 (m : Int) ∧ m ≤ i + j + 1) (fun u => i + j + 1 - (intOf u).toNat)
            case atStart => exact ⟨0, rfl, Nat.zero_le _⟩
            case round =>
              obtain ⟨m, rfl, hm⟩ := hrel
              by_cases hml : m < i + j + 1
              · have dm := HD7.out.cell hml
                by_cases hmi : m ≤ i
                · have e : dS i (i + j) m = (m : Int) := by unfold dS; rw [if_pos (by omega), if_pos hmi]
                  rw [e] at dm
                  clear e
                  go_wp2
                  exact ⟨⟨m + 1, by go_num, hml⟩, by simp [intOf]; omega⟩
                · have e : dS i (i + j) m = 2 * (i : Int) - m := by unfold dS; rw [if_pos (by omega), if_neg hmi]
                  rw [e] at dm
                  clear e
                  go_wp2
                  exact ⟨⟨m + 1, by go_num, hml⟩, by simp [intOf]; omega⟩
              · have hml' : ¬ ((m : Int) < ((i + j + 1 : Nat) : Int)) := by omega
                go_wp2_with (go_at_call 10; refine (HKA.out _).mono ?_; rintro e w8 ⟨rfl, F8⟩)
                go_ret
                exact ⟨rfl, HF7.out.trans F8 (fun _ _ e => e)⟩

theorem checkStacks_top (x y : Int) (w : World) (hx1 : -9223372036854775808 ≤ x) (hx2 : x ≤ 9223372036854775807) (hy1 : -9223372036854775808 ≤ y) (hy2 : y ≤ 9223372036854775807) :
    Calls Try.prog 5 #[.int .i64 x, .int .i64 y] w fun e w' => e = .returned (.bool true) ∧ Below w.heap.size w w' :=
  (checkStacks_any x y w hx1 hx2 hy1 hy2).mono fun _ _ h => ⟨h.1, h.2.below (Nat.le_refl _) (fun _ _ e => e)⟩

end Go.Proofs.Ytdbmmbblcpikeaa
