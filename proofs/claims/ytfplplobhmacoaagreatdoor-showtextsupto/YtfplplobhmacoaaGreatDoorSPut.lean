/-
  What is proved here: package strings' Builder in package show's teller: WriteString, String; show's put.
-/
import Derived.Test.YtfplplobhmacoaaGreatDoorSBuild
namespace Go.Proofs.YtfplplobhmacoaaGreatDoor
open Go Go.RowKit

/-- One byte row has grown, and lies in the teller. -/
theorem TellAt.put {B tb : Nat} {out : List UInt8} {p v r v' : Value} {w w2 : World} {s : ByteArray} (hB : B ≤ tb) (h1 : w.heap[tb]? = some (.cells #[p, v, r] 58 (0, 0))) (hp : p = .pointer none ∨ p = .pointer (some ⟨tb, 0, none⟩))
    (hown : w.ownsRow B 5 1 v out.length (Lib.byteCells out)) (hown' : w2.ownsRow B 5 1 v' (out.length + s.size) (Lib.byteCells out ++ Lib.strCells s)) (hgrow : w.grownBy w2 v.ownBlock) (hBw : B ≤ w.heap.size) :
    w2.heap[tb]? = some (.cells #[p, v, r] 58 (0, 0)) ∧ TellAt B tb (out ++ s.data.toList) r (w2.setCell ⟨tb, 1, none⟩ v') ∧ Below B w (w2.setCell ⟨tb, 1, none⟩ v') ∧ Kp tb w (w2.setCell ⟨tb, 1, none⟩ v') := by
  have hlt : tb < w.heap.size := (Array.getElem?_eq_some_iff.1 h1).1
  have hne : v.ownBlock ≠ some tb := fun e => by
    rcases hown.2 with ⟨e0, _⟩ | ⟨g, cap, cur, e1, e2, e3, _⟩
    · rw [e0] at e; cases e
    · rw [e1] at e
      have eg : g = tb := by simpa [Value.ownBlock] using e
      rw [eg, h1] at e3
      simp at e3
  have hne' : v'.ownBlock ≠ some tb := fun e => by
    rcases hown'.2 with ⟨e0, _⟩ | ⟨g, cap, cur, e1, e2, e3, _⟩
    · rw [e0] at e; cases e
    · rw [e1] at e
      have eg : g = tb := by simpa [Value.ownBlock] using e
      have h2 := (hgrow.block tb hlt (fun e => hne e.symm)).trans h1
      rw [eg, h2] at e3
      simp at e3
  have h2 : w2.heap[tb]? = some (.cells #[p, v, r] 58 (0, 0)) := (hgrow.block tb hlt (fun e => hne e.symm)).trans h1
  refine ⟨h2, ⟨hB, p, v', heap_setCell_same w2 tb 1 _ _ _ h2, hp, ?_⟩, ?_, ?_⟩
  · have e1 : (out ++ s.data.toList).length = out.length + s.size := by rw [List.length_append, bytes_len]
    have e2 : Lib.byteCells (out ++ s.data.toList) = Lib.byteCells out ++ Lib.strCells s := by rw [Lib.byteCells_append, Lib.strCells_eq]
    rw [e1, e2]
    refine ⟨hown'.1, ?_⟩
    rcases hown'.2 with e | ⟨g, cap, cur, e1, e2, e3, e4⟩
    · exact .inl e
    · exact .inr ⟨g, cap, cur, e1, e2, (heap_setCell_other _ _ _ _ (fun e => hne' (by rw [e1]; simp [Value.ownBlock, e]))).trans e3, e4⟩
  · exact ((Below.refl B w).grown hgrow hBw (fun k hk => (hown.lt k hk).1)).setCell (p := ⟨tb, 1, none⟩) hB _
  · refine Kp.setCell ⟨hgrow.size, fun k c e f hk he h3 => (hgrow.block k (Array.getElem?_eq_some_iff.1 h3).1 (fun e' => ?_)).trans h3⟩ _ _
    rcases hown.2 with ⟨e0, _⟩ | ⟨g, cap, cur, e1, e2, e3, _⟩
    · rw [e0] at e'; cases e'
    · rw [e1] at e'
      have eg : k = g := by simpa [Value.ownBlock] using e'
      rw [← eg, h3] at e3
      simp at e3
      exact he e3.2.1

set_option maxHeartbeats 2000000 in
set_option maxRecDepth 100000 in
theorem writeString_any (B tb : Nat) (out : List UInt8) (r : Value) (s : ByteArray) (w : World) (h : TellAt B tb out r w) (hlen : out.length + s.size ≤ 140737488355328) (hBw : B ≤ w.heap.size) :
    Calls Tryz.prog 57 #[.pointer (some ⟨tb, 0, none⟩), .string s] w fun e w' => e = .returned (.tuple #[.int .i64 s.size, .nilIface]) ∧ TellAt B tb (out ++ s.data.toList) r w' ∧ Below B w w' ∧ Kp tb w w' := by
  obtain ⟨i0, hi, hz0, hz1, hz2⟩ := info_parts infoU8
  obtain ⟨hB, p, v, h1, hp, hown⟩ := h
  have K : Calls Tryz.prog 72 #[.pointer (some ⟨tb, 0, none⟩)] w fun e w1 => e = .returned (.tuple #[]) ∧ w1.heap[tb]? = some (.cells #[.pointer (some ⟨tb, 0, none⟩), v, r] 58 (0, 0)) ∧ w1.ownsRow B 5 1 v out.length (Lib.byteCells out) ∧ Below B w w1 ∧ Kp tb w w1 ∧ w1.heap.size = w.heap.size := by
    rcases hp with rfl | rfl
    · refine (copyCheck_fresh tb w (cell_of_row w tb 0 _ _ _ h1) (by simp [World.shape?, h1]) (frozen_of_row w tb 0 _ _ h1)).mono ?_
      rintro e w1 ⟨rfl, rfl⟩
      refine ⟨rfl, heap_setCell_same w tb 0 _ _ _ h1, ⟨hown.1, ?_⟩, (Below.refl B w).setCell (p := ⟨tb, 0, none⟩) hB _, (Kp.refl tb w).setCell _ _, by simp [World.setCell]⟩
      rcases hown.2 with e | ⟨g, cap, cur, e1, e2, e3, e4⟩
      · exact .inl e
      · refine .inr ⟨g, cap, cur, e1, e2, (heap_setCell_other _ _ _ _ (fun e => ?_)).trans e3, e4⟩
        rw [e, h1] at e3
        simp at e3
    · refine (copyCheck_used tb w (cell_of_row w tb 0 _ _ _ h1)).mono ?_
      rintro e w1 ⟨rfl, rfl⟩
      exact ⟨rfl, h1, hown, Below.refl B _, Kp.refl tb _, rfl⟩
  have HK := hide K
  clear K h1 hown hp
  go_enter Tryz.func57, Tryz.ntmps57
  go_wp2_with (go_at_call 72; refine HK.out.mono ?_)
  rintro e w1 ⟨rfl, h1, hown, hb1, hk1, hs1⟩
  have HS1 := hide hs1
  clear hs1
  have c1 := cell_of_row w1 tb 1 _ _ _ h1
  simp at c1
  obtain ⟨ao, cap, rfl⟩ : ∃ ao cap, v = .slice ao out.length cap := by
    rcases hown.2 with ⟨e, e0⟩ | ⟨g, cap, cur, e, _⟩
    · exact ⟨none, 0, by rw [e, e0]⟩
    · exact ⟨_, _, e⟩
  go_wp2_with (at_builtin; refine Lib.wpList_append_own_string _ rfl _ _ 37 9 rfl B 5 i0 Tryz.underlying37 Tryz.underlying9 hi hz0 hz1 hz2 _ _ _ rfl hown s rfl ?c3 ?c4 ?c5 ?_)
  case c3 => unfold maxLen; omega
  case c4 => omega
  case c5 => have := HS1.out; omega
  intro v' w2 hown' hgrow _
  obtain ⟨h2, T2, B2, K2⟩ := TellAt.put hB h1 (.inr rfl) hown hown' hgrow (by have := HS1.out; omega)
  have d1 := cell_of_row w2 tb 1 _ _ _ h2
  simp at d1
  have f1 := frozen_of_row w2 tb 1 _ _ h2
  obtain ⟨ao', n', cap', rfl⟩ : ∃ ao n' cap, v' = .slice ao n' cap := by
    rcases hown'.2 with ⟨e, _⟩ | ⟨g, cap, cur, e, _⟩
    · exact ⟨_, _, _, e⟩
    · exact ⟨_, _, _, e⟩
  have HT := hide T2
  have HB := hide (hb1.trans B2)
  have HQ := hide (hk1.trans K2)
  clear T2 B2 K2 hown' hgrow hown h1 h2 hb1 hk1
  go_wp2
  go_ret2
  exact ⟨rfl, HT.out, HB.out, HQ.out⟩

set_option maxHeartbeats 2000000 in
set_option maxRecDepth 100000 in
theorem bstring_any (B tb : Nat) (out : List UInt8) (r : Value) (w : World) (h : TellAt B tb out r w) (h63 : out.length ≤ 140737488355328) :
    Calls Tryz.prog 25 #[.pointer (some ⟨tb, 0, none⟩)] w fun e w' => e = .returned (.string ⟨out.toArray⟩) ∧ Below B w w' := by
  obtain ⟨hB, p, v, h1, hp, hown⟩ := h
  have c1 : w.drew.cell? ⟨tb, 1, none⟩ = some v := by
    have : w.drew.heap[tb]? = some (.cells #[p, v, r] 58 (0, 0)) := h1
    rw [Lib.cell_of_heap this]; rfl
  have hUN : ∀ (W : World) (q : Option Addr), (Builtin.unsafeString_ #[82, 3] 9 #[.pointer q, .int .i64 0]).run Tryz.prog W = .ok (.string .empty) W := fun W q => Lib.run_unsafeString_none W _ _ _ q
  have hn0 := @Lib.run_unsafeSliceData_nil Tryz.prog
  by_cases h0 : out = []
  · subst h0
    rcases hown.2 with ⟨rfl, _⟩ | ⟨g, cap, cur, rfl, hbg, hg, hnc, hcm, hcs, htake⟩
    · have hSD := Lib.run_unsafeSliceData_nil (P := Tryz.prog) w.drew #[37] 82 0 0
      clear h1 hown hn0
      go_enter Tryz.func25, Tryz.ntmps25
      go_wp2
      go_region
      all_goals (go_wp2; go_ret; exact ⟨rfl, Below.drew (Below.refl B w)⟩)
    · by_cases hc0 : cap = 0
      · subst hc0
        have hSD := Lib.run_unsafeSliceData_zero (P := Tryz.prog) w.drew #[37] 82 5 Tryz.underlying82 ⟨g, 0, none⟩ 0 (5, cur.size) (by have hg' : w.drew.heap[g]? = some (.cells cur 5 (0, 0)) := hg; simp [World.shape?, hg'])
        have c2 : (w.alloc (.view ⟨g, 0, none⟩ 5)).drew.cell? ⟨tb, 1, none⟩ = some (.slice (some ⟨g, 0, none⟩) 0 0) := (World.cell?_of_block (w := w) (heap_alloc_old w _ (r := tb) (Array.getElem?_eq_some_iff.1 h1).1)).trans (by rw [Lib.cell_of_heap h1]; rfl)
        have hBw : B ≤ w.heap.size := Nat.le_trans hB (Nat.le_of_lt (Array.getElem?_eq_some_iff.1 h1).1)
        clear h1 hown hn0
        go_enter Tryz.func25, Tryz.ntmps25
        go_wp2
        go_region
        all_goals (go_wp2; go_ret; exact ⟨rfl, Below.drew ((Below.refl B w).alloc hBw _)⟩)
      · have hSD := Lib.run_unsafeSliceData_row (P := Tryz.prog) w.drew #[37] 82 ⟨g, 0, none⟩ 0 cap hc0
        clear h1 hown hn0
        go_enter Tryz.func25, Tryz.ntmps25
        go_wp2
        go_region
        all_goals (go_wp2; go_ret; exact ⟨rfl, Below.drew (Below.refl B w)⟩)
  · have hl0 : out.length ≠ 0 := by simpa using h0
    obtain ⟨g, cap, cur, rfl, hbg, hg, hnc, hcm, hcs, htake⟩ : ∃ g cap cur, v = .slice (some ⟨g, 0, none⟩) out.length cap ∧ B ≤ g ∧ w.heap[g]? = some (.cells cur 5 (0, 0)) ∧ out.length ≤ cap ∧ cap ≤ maxLen ∧ cur.size = cap * 1 ∧ cur.toList.take (out.length * 1) = Lib.byteCells out := by
      rcases hown.2 with ⟨_, hz⟩ | ⟨g, cap, cur, hv, q⟩
      · exact absurd hz hl0
      · exact ⟨g, cap, cur, hv, q⟩
    have hSD : (Builtin.unsafeSliceData_ #[37] 82 #[.slice (some ⟨g, 0, none⟩) out.length cap]).run Tryz.prog w.drew = .ok (.pointer (some ⟨g, 0, none⟩)) w.drew :=
      Lib.run_unsafeSliceData_row _ _ _ _ _ _ (by omega)
    have hUS : (Builtin.unsafeString_ #[82, 3] 9 #[.pointer (some ⟨g, 0, none⟩), .int .i64 out.length]).run Tryz.prog w.drew = .ok (.string ⟨out.toArray⟩) (w.drew.freeze ⟨g, 0, none⟩ out.length) := by
      refine Lib.run_unsafeString_row w.drew 82 3 9 5 Tryz.underlying82 (by kernel_rfl) g cur.size (by have hg' : w.drew.heap[g]? = some (.cells cur 5 (0, 0)) := hg; simp [World.shape?, hg']) out h0 (by omega) (by omega) ?_
      intro j x hx
      have := hown.cells (g := g) rfl j (.int .u8 x.toNat) (by simp [Lib.byteCells, hx])
      exact this
    clear hUN hn0 hown h1 htake
    go_enter Tryz.func25, Tryz.ntmps25
    go_wp2
    go_region
    all_goals (go_wp2; go_ret; exact ⟨rfl, Lib.below_freeze (Below.drew (Below.refl B w)) (p := ⟨g, 0, none⟩) hbg _⟩)

end Go.Proofs.YtfplplobhmacoaaGreatDoor
