/-
  What is proved here: package value's Intern of a new name for which there is room: its text is laid, and the symbol behind it.
-/
import Derived.Test.YtchdfenickjiiaaVIntern
import Derived.Deep.RegionHeld3
namespace Go.Proofs.Ytchdfenickjiiaa
open Go Go.RowKit

/-- The words behind a new symbol of s: its text, then a word that points there. -/
def symF (f : Nat → Nat) (n : Nat) (s : ByteArray) : Nat → Nat :=
  tagF (tagF f n (hOf 3 0 (1 + (s.size + 7) / 8)) (textW (fun i => (s.data.toList.getD i 0).toNat) s.size) (1 + (s.size + 7) / 8)) (n + 1 + 0 + (1 + (s.size + 7) / 8)) (hOf 4 1 0) (fun _ => 4 * n) 1
/-- Where the symbol stands. -/
def symN (n : Nat) (s : ByteArray) : Nat := n + 1 + 0 + (1 + (s.size + 7) / 8)

/-- The text is laid. -/
theorem intern_text {w w1 : World} {q sb hb : Nat} {X : Nat → Prop} {vS : Value} {mb m : Nat} {sw : Nat → Nat} {nm : Nat → ByteArray} {sz : Nat} {tm : Int} {n : Nat} {f : Nat → Nat} {st : Nat → Bool} (h : SymIn w sb hb X vS mb m sw nm sz tm n f st) (hq : w1 = w.drewN q) (s : ByteArray) (hs : s.size ≤ 140737488351232) (hroom : symN n s ≤ sz) :
    Calls Try.prog 17 #[.pointer (some ⟨sb, 0, none⟩), .slice (some ⟨w1.heap.size, 0, none⟩) s.size (grownCap w1 s.size 0 5)] (Lib.bytesWorld w1 5 s) fun e w' => e = .returned (.tuple #[.int .u64 ((4 * n : Nat) : Int), .bool true]) ∧ ∃ X2, SymIn w' sb hb X2 vS mb m sw nm sz tm (symN n s) (tagF f n (hOf 3 0 (1 + (s.size + 7) / 8)) (textW (fun i => (s.data.toList.getD i 0).toNat) s.size) (1 + (s.size + 7) / 8)) (also st n) ∧ Grows w.heap.size X X2 ∧ Fr X w w' := by
  have h1 : SymIn w1 sb hb X vS mb m sw nm sz tm n f st := by rw [hq]; exact h.drewN q
  have F1 : Fr (fun _ => False) w1 (Lib.bytesWorld w1 5 s) := ⟨rfl, rfl, rfl, by rw [Lib.bytesWorld_size]; omega, fun k hk _ => Lib.bytesWorld_at_old w1 5 s k hk⟩
  have F0 : Fr X w (Lib.bytesWorld w1 5 s) := Fr.trans (by rw [hq]; exact (Fr.refl X w).drewN q) F1 (fun _ _ e => e.elim)
  have h2 := h1.fr F1 (fun _ _ e => e)
  have sz1 : w1.heap.size = w.heap.size := by rw [hq]; rfl
  refine (text_yes _ sb hb X sz tm n f st _ w1.heap.size 0 s.size (grownCap w1 s.size 0 5) (fun i => (s.data.toList.getD i 0).toNat) h2.S.H h2.S.cells.1 h2.S.sX (.inr ⟨rfl, grownCap_ge w1 s.size 0 5, hs⟩) (fun i _ => UInt8.toNat_lt _) (fun i hi => by rw [Nat.zero_add]; exact Lib.bytesWorld_cell w1 5 s i hi) (fun e => by have := h1.S.H.lt e; omega) hroom).mono fun e w' he => ?_
  obtain ⟨e1, X2, H2, G2, F2⟩ := he
  have FF : Fr X w w' := Fr.trans F0 F2 (fun _ _ e => e)
  have GG : Grows w.heap.size X X2 := fun k hk => by
    rcases G2 k hk with e | e
    · exact .inl e
    · rw [Lib.bytesWorld_size] at e; exact .inr (by omega)
  exact ⟨e1, X2, h.turn H2 GG FF (by unfold symN; omega), GG, FF⟩

/-- The symbol is laid. -/
theorem intern_lay {w : World} {sb hb : Nat} {X : Nat → Prop} {vS : Value} {mb m : Nat} {sw : Nat → Nat} {nm : Nat → ByteArray} {sz : Nat} {tm : Int} {n2 n : Nat} {f : Nat → Nat} {st : Nat → Bool} (h : SymIn w sb hb X vS mb m sw nm sz tm n2 f (also st n)) (hroom : n2 + 1 + 1 + 0 ≤ sz) (hn : n < n2) :
    Calls Try.prog 49 #[.pointer (some ⟨sb, 0, none⟩), .int .i64 4, .slice (some ⟨w.heap.size, 0, none⟩) 1 1] (w.alloc (.cells #[.int .u64 ((4 * n : Nat) : Int)] 22)) fun e w' => e = .returned (.tuple #[.int .u64 ((4 * n2 : Nat) : Int), .bool true]) ∧ ∃ X2, SymIn w' sb hb X2 vS mb m sw nm sz tm (n2 + 1 + 1 + 0) (tagF f n2 (hOf 4 1 0) (fun _ => 4 * n) 1) (also (also st n) n2) ∧ Grows w.heap.size X X2 ∧ Fr X w w' := by
  have hz := h.S.H.good.2.2
  have F1 : Fr (fun _ => False) w (w.alloc (.cells #[.int .u64 ((4 * n : Nat) : Int)] 22)) := (Fr.refl _ w).alloc _
  have h2 := h.fr F1 (fun _ _ e => e)
  refine (layTagged_yes _ sb hb X sz tm n2 f (also st n) 4 _ 1 1 (fun _ => 4 * n) h2.S.H h2.S.cells.1 h2.S.sX (.inr ⟨w.heap.size, 0, rfl, fun e => by have := h.S.H.lt e; omega, fun i hi => ?_⟩) (fun i _ => by omega) (fun i _ => ?_) (by decide) (by decide) hroom).mono fun e w' he => ?_
  · have e0 : i = 0 := by omega
    subst e0
    exact cell_of_row _ _ 0 _ _ _ (heap_alloc_new w _)
  · unfold may isPtr
    rw [show 4 * n / 4 = n by omega, also_new, show 4 * n % 4 = 0 by omega]
    rfl
  · obtain ⟨e1, X2, H2, G2, F2⟩ := he
    have FF : Fr X w w' := Fr.trans (F1.mono fun _ _ e => e.elim) F2 (fun _ _ e => e)
    have GG : Grows w.heap.size X X2 := fun k hk => by
      rcases G2 k hk with e | e
      · exact .inl e
      · exact .inr (by have := F1.size; omega)
    exact ⟨e1, X2, h.turn H2 GG FF (by omega), GG, FF⟩

set_option maxRecDepth 20000 in
set_option maxHeartbeats 4000000 in
theorem intern_new (w : World) (sb hb : Nat) (X : Nat → Prop) (vS : Value) (mb m : Nat) (sw : Nat → Nat) (nm : Nat → ByteArray) (sz : Nat) (tm : Int) (n : Nat) (f : Nat → Nat) (st : Nat → Bool) (h : SymIn w sb hb X vS mb m sw nm sz tm n f st) (s : ByteArray) (hn : ∀ i, i < m → nm i ≠ s) (hs : s.size ≤ 140737488351232) (hroom : symN n s + 1 + 1 + 0 ≤ sz) :
    Calls Try.prog 16 #[.pointer (some ⟨sb, 0, none⟩), .string s] w fun e w' => e = .returned (.tuple #[.int .u64 ((4 * symN n s : Nat) : Int), .bool true]) ∧ ∃ X2 v2, SymIn w' sb hb X2 v2 mb (m + 1) (upd sw m (4 * symN n s)) (updB nm m s) sz tm (symN n s + 1 + 1 + 0) (symF f n s) (also (also st n) (symN n s)) ∧ Fr (storeX sb X vS mb) w w' ∧ Grows w.heap.size (storeX sb X vS mb) (storeX sb X2 v2 mb) := by
  have c1 := h.S.cells.2.1
  have c2 := h.S.cells.2.2.1
  have KK := known_same w sb hb X vS mb sz tm n f st h.S
  have KR := fun q => room_any (w.drewN q) sb hb X sz tm n f st (h.S.H.drewN q) (h.S.cells.1)
  have KT := fun w1 => textRaws_any s.size w1 (by omega)
  obtain ⟨D, hown, hD⟩ := h.map
  have hkey := keyS (s := s) (by unfold maxLen; omega)
  have hhas := hD.miss hn
  have hz := h.S.H.good.2.2
  obtain ⟨N, hN⟩ : ∃ N, N = 1 + (s.size + 7) / 8 := ⟨_, rfl⟩
  obtain ⟨n2, hn2⟩ : ∃ n2, n2 = symN n s := ⟨_, rfl⟩
  have hn2' : n2 = n + 1 + 0 + N := by rw [hn2, hN]; rfl
  rw [← hn2] at hroom ⊢
  rw [← hN] at KT
  have hge : ¬ ((sz : Int) - (n : Int) < 1 + (N : Int) + 2) := by omega
  have hNl : N ≤ 140737488351240 := by omega
  have kc := fun (W : World) => Lib.run_convert_string_bytes (P := Try.prog) W 9 38 5 s Try.underlying9 Try.underlying38 Try.underlying5
  obtain ⟨iW, hiW, hz0, hz1, hz2⟩ := info_parts infoW
  have hm1 : m ≤ 1048576 := by have := h.mn; omega
  obtain ⟨p, hp⟩ : ∃ p, p = 4 * n := ⟨_, rfl⟩
  obtain ⟨p2, hp2⟩ : ∃ p2, p2 = 4 * n2 := ⟨_, rfl⟩
  have KX := fun (w1 : World) (q : Nat) (hq : w1 = w.drewN q) => intern_text h hq s hs (by omega)
  have KL := fun (w4 : World) (X2 : Nat → Prop) (f2 : Nat → Nat) (h4 : SymIn w4 sb hb X2 vS mb m sw nm sz tm n2 f2 (also st n)) => intern_lay h4 hroom (by omega)
  obtain ⟨ao, cap, hvS⟩ := h.words.shape
  subst hvS
  rw [← hp2]
  simp only [← hn2, ← hp] at KX
  simp only [← hp, ← hp2] at KL
  have HKX := hide KX
  have HKL := hide KL
  have HP := hide hp
  have HP2 := hide hp2
  have HNS := hide hn2
  clear KX KL hp hp2
  have HS := hide h
  have HKK := hide KK
  have HKR := hide KR
  have HO := hide hown
  have HD := hide hD
  have HN := hide hN
  have HN2 := hide hn2'
  have HNM := hide hn
  have hsl : sb < w.heap.size := (Array.getElem?_eq_some_iff.1 h.S.blk).1
  clear KK KR hown hD h hN hn2' hn hn2
  go_enter Try.func16, Try.ntmps16
  go_wp2_with (first
    | (go_at_call 46; refine HKK.out.mono ?_; rintro e w1 ⟨rfl, q1, rfl⟩)
    | (go_at_call 47; refine (KT _).mono ?_; rintro e w1 ⟨rfl, hw⟩; replace hw := hw.symm; subst hw)
    | (go_at_call 48; refine (HKR.out _).mono ?_; rintro e w1 ⟨rfl, q2, hq⟩; have hq' : w1 = w.drewN (q1 + q2) := (by rw [hq]; simp); have HQ := hide hq'; clear hq hq')
    | (go_at_call 17; refine (HKX.out _ _ HQ.out).mono ?_; rintro e w4 ⟨rfl, X2, S4, G4, F4⟩; have HS4 := hide S4; have HG4 := hide G4; have HF4 := hide F4; clear S4 G4 F4)
    | (go_at_call 49; refine (HKL.out _ _ _ HS4.out).mono ?_; rintro e w6 ⟨rfl, X3, S6, G6, F6⟩; have HS6 := hide S6; have HG6 := hide G6; have HF6 := hide F6; clear S6 G6 F6)
    | (at_lookup; refine wpList_lookup_own_ok_int _ rfl _ _ 48 rfl 9 3 .i64 strKeyed Try.underlying48 Try.underlying3 (zeroI _) mb m D rfl (ownsMap_block HO.out (by simp)) _ _ rfl hkey ?_; intro c hat _hwc; rw [hhas]; clear hat))
  have c61 := HS6.out.S.cells.2.1
  have c62 := HS6.out.S.cells.2.2.1
  have hsl6 : sb < w6.heap.size := (Array.getElem?_eq_some_iff.1 HS6.out.S.blk).1
  go_region_held3 (fun w' => w'.cell? ⟨sb, 2, none⟩ = some (.map (some mb)) ∧ w'.cell? ⟨sb, 1, none⟩ = some (.slice ao m cap)) (go_keep)
    ((go_at_call 50; refine (strClone_any s _ (by omega)).mono ?_; rintro e w7 ⟨rfl, F7⟩; have S7 := HS6.out.fr (Fr.trans (Fr.refl _ w6).drew F7 (fun _ _ e => e)) (fun _ _ e => e); obtain ⟨D7, hown7, hD7⟩ := S7.map; obtain ⟨w8, hrun, hown8, hg8⟩ := hown7.update strKeyed Try.underlying48 (by unfold maxLen; omega) hkey (plainElem_int Try.underlying3 (WalkArith.wf_i64 (n := (m : Int)) ⟨by omega, by omega⟩)); have c71 := S7.S.cells.2.1; have c72 := S7.S.cells.2.2.1; have F8 : Fr (fun k => k = mb) w7 w8 := (Fr.refl _ w7).grow hg8 (fun k _ e => by cases e; rfl); have c81 := (F8.cell (o := 1) (Array.getElem?_eq_some_iff.1 S7.S.blk).1 (fun e => S7.S.ms e.symm)).trans c71; have c82 := (F8.cell (o := 2) (Array.getElem?_eq_some_iff.1 S7.S.blk).1 (fun e => S7.S.ms e.symm)).trans c72; have HS7 := hide S7; have HO8 := hide hown8; have HG8 := hide hg8; have HD7 := hide hD7; have HF8 := hide F8; have HF7 := hide (Fr.trans (Fr.refl _ w6).drew F7 (fun _ _ e => e)); clear S7 hown8 hg8 hD7 hown7 F8 F7))
  have hrow := (HS7.out.words.fr HF8.out (fun g hg e => (HS7.out.vX g hg).2.2 e)).row
  clear c61 c62 c71 c72 c82
  go_wp2_with (at_builtin; refine wpList_append_lies _ rfl _ _ 35 rfl 0 22 iW (.int .u64 0) 1 8 Try.underlying35 hiW hz0 hz1 hz2 rfl (by decide) _ m _ rfl (hrow.alloc _) ⟨w8.heap.size, 0, none⟩ 1 1 [.int .u64 p2] rfl rfl (hcells_one _ _ _) (fun u hu => by simp at hu; subst hu; rfl) (by decide) (by unfold maxLen; omega) (by omega) (by simp) (w8.heap.size + 1) (by simp) ?_; intro g9 cap9 w9 hown9 hgrow9 hat9 hlt9; have F9 : Fr (fun j => (Value.slice ao m cap).ownBlock = some j) w8 w9 := ((Fr.refl _ w8).alloc _).grow hgrow9 (fun k _ e => e); have S9 := lies_stays (n := m + 1) (cap := cap9) (H := w8.heap.size) hat9 (by omega); obtain ⟨_, q91, q92, SS⟩ := HS7.out.added HO8.out (HD7.out.put HNM.out) HG8.out F9 (Own.snoc hown9) S9 (by have := HS.out.mn; have := HN2.out; omega); have HSS := hide SS; have HF9 := hide F9; have HS9 := hide S9; clear SS F9 S9 hown9 hgrow9 hat9 hlt9)
  go_ret2
  have hSy : symF f n s = tagF (tagF f n (hOf 3 0 (1 + (s.size + 7) / 8)) (textW (fun i => (s.data.toList.getD i 0).toNat) s.size) (1 + (s.size + 7) / 8)) n2 (hOf 4 1 0) (fun _ => p) 1 := by
    rw [HNS.out, HP.out]
    rfl
  have nX3 : ∀ k, k < w.heap.size → X3 k → X k := fun k hk e => by
    rcases HG6.out k e with e | e
    · rcases HG4.out k e with e | e
      · exact e
      · omega
    · have := HF4.out.size; omega
  have l4 := HF4.out.size
  have l6 := HF6.out.size
  have l7 := HF7.out.size
  have l8 := HF8.out.size
  have FA : Fr (storeX sb X (.slice ao m cap) mb) w w6 := Fr.trans (HF4.out.mono (fun k _ e => .inl e)) HF6.out (fun k hk e => by
    rcases HG4.out k e with e | e
    · exact .inl e
    · omega)
  have FB : Fr (storeX sb X (.slice ao m cap) mb) w w8 := Fr.trans (Fr.trans FA HF7.out (fun _ _ e => e.elim)) HF8.out (fun k _ e => .inr (.inr (.inl e)))
  have FC : Fr (storeX sb X (.slice ao m cap) mb) w w9 := Fr.trans FB HF9.out (fun k _ e => .inr (.inr (.inr e)))
  refine ⟨rfl, X3, _, by rw [hSy]; exact HSS.out, FC.setCell (fun _ => .inr (.inl rfl)) _ _, fun k hk => ?_⟩
  rcases hk with e | e | e | e
  · rcases HG6.out k e with e | e
    · rcases HG4.out k e with e | e
      · exact .inl (.inl e)
      · exact .inr e
    · exact .inr (by omega)
  · exact .inl (.inr (.inl e))
  · exact .inl (.inr (.inr (.inl e)))
  · rcases HS9.out k e with e | e
    · exact .inl (.inr (.inr (.inr e)))
    · exact .inr (by omega)

end Go.Proofs.Ytchdfenickjiiaa
