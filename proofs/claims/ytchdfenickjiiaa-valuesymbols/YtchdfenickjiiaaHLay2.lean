/-
  What is proved here: a half of the heap: an object is laid behind the others.
-/
import Derived.Test.YtchdfenickjiiaaHLay
namespace Go.Proofs.Ytchdfenickjiiaa
open Go Go.RowKit

theorem Own.snocF {k : IntKind} {E : TypeId} {w : World} {base : Nat} {v : Value} {n x : Nat} {F : Nat → Nat} (h : w.ownsRow base E 1 v (n + 1) (cellsOf k F n ++ [.int k x])) (hx : F n = x) : Own k E w base v (n + 1) F :=
  (Own.snoc h).congr fun i hi => by
    by_cases e : i = n
    · rw [e, upd_same, hx]
    · rw [upd_other e]

set_option maxRecDepth 20000 in
set_option maxHeartbeats 2000000 in
theorem lay_any (T : TypeId) (w : World) (hb : Nat) (cur : Array Value) (o : Nat) (v u : Value) (n : Nat) (f : Nat → Nat) (m : Nat) (s : Nat → Nat) (x : Nat) (h : HalfAt 22 T w hb cur o v u n f m s) (hn : n + hLen x ≤ 1048576) (hm : m ≤ 16385) (hs : ∀ i, i < m → s i < 18446744073709551616) (hx : x < 18446744073709551616) :
    Calls Try.prog 90 #[.pointer (some ⟨hb, o, none⟩), .int .u64 (x : Int)] w fun e w' => e = .returned (.int .u64 ((4 * n : Nat) : Int)) ∧ ∃ v' u' m' s', HalfAt 22 T w' hb ((cur.setIfInBounds (o + 1) u').setIfInBounds o v') o v' u' (n + hLen x) (laid f n x) m' s' ∧ (∀ p, marks m' s' p = also (marks m s) n p) ∧ (∀ i, i < m' → s' i < 18446744073709551616) ∧ m' ≤ 16385 ∧ Stays w.heap.size u u' ∧ Stays w.heap.size v v' ∧ Fr (foot hb v u) w w' := by
  obtain ⟨i, hi, hz0, hz1, hz2⟩ := info_parts infoW
  have hT := hTag_lt x
  have hR := hRaw_lt x
  have hL : hLen x = 1 + hTag x + hRaw x := rfl
  have hn' : n + (1 + hTag x + hRaw x) ≤ 1048576 := by omega
  have HL := hide hL
  have HH := hide h
  have hl0 := hide (Own.congr (k := .u64) h.ov (f' := laid f n x) fun i hi => (laid_old hi).symm)
  clear h hn hL
  go_enter Try.func90, Try.ntmps90
  go_wp2_with (first
    | (go_at_call 120; refine (start_any T _ _ cur _ v u n f m s HH.out (by omega) hm hs).mono ?_; rintro e w1 ⟨rfl, u1, m1, s1, h1, hk1, hs1, hm1, hst1, hfr1⟩; have hcv := h1.cellv; have hown := (Own.congr h1.ov (f' := laid f n x) fun i hi => (laid_old hi).symm).row; have H1 := hide h1; have HF1 := hide hfr1; have HK1 := hide hk1; clear h1 hfr1 hk1)
    | (go_at_call 76; refine (tagged_any _ _ hx).mono ?_; rintro e w2 ⟨rfl, rfl⟩)
    | (at_builtin; refine wpList_append_lies _ rfl _ _ 35 rfl 0 22 i (.int .u64 0) 1 8 Try.underlying35 hi hz0 hz1 hz2 rfl (by decide) v n _ rfl (hown.alloc _) ⟨w1.heap.size, 0, none⟩ 1 1 [.int .u64 x] rfl rfl (hcells_one _ _ _) (fun u hu => by simp at hu; subst hu; rfl) (by decide) (by unfold maxLen; omega) (by omega) (by simp) (w1.heap.size + 1) (by simp) ?_; intro g cap2 w2 hown2 hgrow hat hlt2; have O2 := hide (Own.snocF hown2 (laid_head f n x)); have F2 := hide (((Fr.refl (fun k => v.ownBlock = some k) w1).alloc _).grow hgrow (fun k _ e => e)); have S2 := hide (lies_stays (n := n + 1) (cap := cap2) (H := w1.heap.size) hat (by omega)); clear hown2 hgrow hat hlt2 hown))
  go_loopw [6, 18] (fun t c wr => ∃ (j : Nat), j ≤ hTag x ∧ c = .int .i64 j ∧ Own .u64 22 wr 0 t (n + 1 + j) (laid f n x) ∧ Stays w1.heap.size v t ∧ Fr (fun k => v.ownBlock = some k) w1 wr) (fun _ c _ => hTag x - (intOf c).toNat)
  case atStart => exact ⟨0, Nat.zero_le _, rfl, O2.out, S2.out, F2.out⟩
  case round =>
    clear O2 S2 F2
    obtain ⟨j, hj, rfl, hO, hS, hF⟩ := hrel
    have hown := hO.row
    have HS := hide hS
    have HF := hide hF
    by_cases hlt : j < hTag x
    · clear hO hS hF
      go_wp2_with (at_builtin; refine wpList_append_lies _ rfl _ _ 35 rfl 0 22 i (.int .u64 0) 1 8 Try.underlying35 hi hz0 hz1 hz2 rfl (by decide) _ (n + 1 + j) _ rfl (hown.alloc _) ⟨wr.heap.size, 0, none⟩ 1 1 [.int .u64 2] rfl rfl (hcells_one _ _ _) (fun u hu => by simp at hu; subst hu; rfl) (by decide) (by unfold maxLen; omega) (by omega) (by simp) (wr.heap.size + 1) (by simp) ?_; intro g3 cap3 w3 hown3 hgrow3 hat3 hlt3; have O3 := hide (Own.snocF hown3 (laid_tag hlt)); have G3 := hide hgrow3; have A3 := hide hat3; clear hown3 hgrow3 hat3 hlt3)
      go_roundw
      case rel =>
        refine ⟨j + 1, by omega, by go_num, O3.out, HS.out.trans (lies_stays (H := wr.heap.size) A3.out (by omega)) HF.out.size, (HF.out.alloc _).grow G3.out fun k hk e => ?_⟩
        rcases HS.out k e with e | e
        · exact e
        · omega
      case measure => simp [intOf]; omega
    · have hjt : j = hTag x := by omega
      subst hjt
      clear hlt hj hO hS hF
      go_wp2_with (go_at_call 107; refine (raws_any _ _ hx).mono ?_; rintro e wr ⟨rfl, rfl⟩)
      go_loopw [6, 26] (fun t c wr => ∃ (j : Nat), j ≤ hRaw x ∧ c = .int .i64 j ∧ Own .u64 22 wr 0 t (n + 1 + hTag x + j) (laid f n x) ∧ Stays w1.heap.size v t ∧ Fr (fun k => v.ownBlock = some k) w1 wr) (fun _ c _ => hRaw x - (intOf c).toNat)
      case atStart => exact ⟨0, Nat.zero_le _, rfl, Own.of_row hown (fun i hi => cellsOf_get _ _ _ _ hi), HS.out, HF.out⟩
      case round =>
        clear hown HS HF
        obtain ⟨j, hj, rfl, hO, hS, hF⟩ := hrel
        have hown := hO.row
        have HS := hide hS
        have HF := hide hF
        by_cases hlt : j < hRaw x
        · clear hO hS hF
          go_wp2_with (at_builtin; refine wpList_append_lies _ rfl _ _ 35 rfl 0 22 i (.int .u64 0) 1 8 Try.underlying35 hi hz0 hz1 hz2 rfl (by decide) _ (n + 1 + hTag x + j) _ rfl (hown.alloc _) ⟨wr.heap.size, 0, none⟩ 1 1 [.int .u64 0] rfl rfl (hcells_one _ _ _) (fun u hu => by simp at hu; subst hu; rfl) (by decide) (by unfold maxLen; omega) (by omega) (by simp) (wr.heap.size + 1) (by simp) ?_; intro g3 cap3 w3 hown3 hgrow3 hat3 hlt3; have O3 := hide (Own.snocF hown3 laid_raw); have G3 := hide hgrow3; have A3 := hide hat3; clear hown3 hgrow3 hat3 hlt3)
          go_roundw
          case rel =>
            refine ⟨j + 1, by omega, by go_num, O3.out, HS.out.trans (lies_stays (H := wr.heap.size) A3.out (by omega)) HF.out.size, (HF.out.alloc _).grow G3.out fun k hk e => ?_⟩
            rcases HS.out k e with e | e
            · exact e
            · omega
          case measure => simp [intOf]; omega
        · have hjt : j = hRaw x := by omega
          subst hjt
          obtain ⟨hc2, hf2, hH2⟩ := H1.out.regrowV hF hO hS
          have HH2 := hide hH2
          obtain ⟨ao3, cap3, rfl⟩ := hO.shape
          clear hlt hj hH2 hO hS hF hown
          go_wp2
          go_ret
          refine ⟨retI (by omega), .slice ao3 (n + 1 + hTag x + hRaw x) cap3, u1, m1, s1, ?_, HK1.out, hs1, hm1, hst1, ?_, ?_⟩
          · rw [show n + hLen x = n + 1 + hTag x + hRaw x by have := HL.out; omega]
            exact HH2.out
          · intro g hg
            rcases HS.out g hg with e | e
            · exact .inl e
            · have := HF1.out.size
              exact .inr (by omega)
          · have FA : Fr (foot hb v u) w w1 := HF1.out.mono (fun k _ e => by
              rcases e with e | e
              · exact .inl e
              · exact .inr (.inr e))
            have FB : Fr (foot hb v u) w wr := FA.trans HF.out (fun k _ e => .inr (.inl e))
            exact FB.setCell (fun _ => .inl rfl) _ _

theorem hcells_at {w : World} {b off l : Nat} {d : Nat → Nat} (hd : ∀ i, i < l → w.cell? ⟨b, off + i, none⟩ = some (.int .u64 (d i))) : ∀ j z, (cellsOf .u64 d l)[j]? = some z → w.cell? ((⟨b, off, none⟩ : Addr).add j) = some z := by
  intro j z hj
  rw [Addr.add_lit]
  by_cases e : j < l
  · rw [cellsOf_get _ _ _ _ e] at hj
    rw [hd j e]
    exact hj
  · rw [List.getElem?_eq_none (by rw [cellsOf_length]; omega)] at hj
    cases hj

set_option maxRecDepth 20000 in
set_option maxHeartbeats 1000000 in
theorem layCopy_any (T : TypeId) (w : World) (hb : Nat) (cur : Array Value) (o : Nat) (v u : Value) (n : Nat) (f : Nat → Nat) (m : Nat) (s : Nat → Nat) (b off l cl : Nat) (d : Nat → Nat) (h : HalfAt 22 T w hb cur o v u n f m s) (hn : n + l ≤ 1048576) (hl : 0 < l) (_hlc : l ≤ cl) (_hcl : cl ≤ 9223372036854775807) (hm : m ≤ 16385) (hs : ∀ i, i < m → s i < 18446744073709551616) (hd : ∀ i, i < l → w.cell? ⟨b, off + i, none⟩ = some (.int .u64 (d i))) (hb1 : b ≠ hb) (hb2 : u.ownBlock ≠ some b) (_hb3 : v.ownBlock ≠ some b) :
    Calls Try.prog 137 #[.pointer (some ⟨hb, o, none⟩), .slice (some ⟨b, off, none⟩) l cl] w fun e w' => e = .returned (.int .u64 ((4 * n : Nat) : Int)) ∧ ∃ v' u' m' s', HalfAt 22 T w' hb ((cur.setIfInBounds (o + 1) u').setIfInBounds o v') o v' u' (n + l) (fun i => if i < n then f i else d (i - n)) m' s' ∧ (∀ p, marks m' s' p = also (marks m s) n p) ∧ (∀ i, i < m' → s' i < 18446744073709551616) ∧ m' ≤ 16385 ∧ Stays w.heap.size u u' ∧ Stays w.heap.size v v' ∧ Fr (foot hb v u) w w' := by
  obtain ⟨i, hi, hz0, hz1, hz2⟩ := info_parts infoW
  have hblt : b < w.heap.size := World.block_lt_of_cell? w _ (hd 0 hl)
  have HH := hide h
  clear h
  go_enter Try.func137, Try.ntmps137
  go_wp2_with (first
    | (go_at_call 120; refine (start_any T _ _ cur _ v u n f m s HH.out (by omega) hm hs).mono ?_; rintro e w1 ⟨rfl, u1, m1, s1, h1, hk1, hs1, hm1, hst1, hfr1⟩; have hcv := h1.cellv; have hown := h1.ov.row; have hd1 := hide (fun i hi => (hfr1.cell (b := b) (o := off + i) hblt (fun e => by rcases e with e | e; exact hb1 e; exact hb2 e)).trans (hd i hi)); have H1 := hide h1; have HF1 := hide hfr1; have HK1 := hide hk1; clear h1 hfr1 hk1)
    | (at_builtin; refine wpList_append_lies _ rfl _ _ 35 rfl 0 22 i (.int .u64 0) 1 8 Try.underlying35 hi hz0 hz1 hz2 rfl (by decide) v n _ rfl hown ⟨b, off, none⟩ l cl (cellsOf .u64 d l) rfl (by rw [cellsOf_length]; omega) (hcells_at hd1.out) (cellsOf_one _ _ _) hl (by unfold maxLen; omega) (by omega) (by simp) (w1.heap.size) rfl ?_; intro g cap2 w2 hown2 hgrow hat hlt2; obtain ⟨hc2, hf2, hH2⟩ := H1.out.regrowV (((Fr.refl _ w1)).grow hgrow (fun k _ e => e)) (Own.cat hown2) (lies_stays hat (by omega)); have HH2 := hide hH2; have F2 := hide (((Fr.refl (fun k => v.ownBlock = some k) w1)).grow hgrow (fun k _ e => e)); have S2 := hide (lies_stays (n := n + l) (cap := cap2) (H := w1.heap.size) hat (by omega)); clear hown2 hgrow hat hlt2 hown hH2))
  go_ret
  refine ⟨retI (by omega), _, u1, m1, s1, HH2.out, HK1.out, hs1, hm1, hst1, ?_, ?_⟩
  · intro g hg
    rcases S2.out g hg with e | e
    · exact .inl e
    · have := HF1.out.size
      exact .inr (by omega)
  · have FA : Fr (foot hb v u) w w1 := HF1.out.mono (fun k _ e => by
      rcases e with e | e
      · exact .inl e
      · exact .inr (.inr e))
    have FB := FA.trans F2.out (fun k _ e => .inr (.inl e))
    exact FB.setCell (fun _ => .inl rfl) _ _

end Go.Proofs.Ytchdfenickjiiaa
