/-
  What is proved here: package strings' Builder, as it lies in package show's teller: copyCheck, WriteString, String; show's put. package strings' Builder in package show's teller: WriteString, String; show's put. package show's put; begin. the rows of package show's teller, and what is still to be told of them; show's begin. package show's small texts: oneByte, twoDigits, truth, letterName. package show's letter, textByte, text. package show's text, list. package show's list.
-/
import Derived.Orders
import Derived.Laws.World
import Derived.Test.YtbijdflgjelpnaaGreatDoorYN
import Derived.Deep.RegionHeld3
import Derived.Deep.QuietTactic
import Derived.BigQuiet
import Derived.Deep.RegionWith
import Derived.Deep.AppendLies
import Derived.Maps.AppendAt
import Derived.Lib.UnsafeStr
import Derived.Lib.AppendStr
import Derived.Lib.Walk
import Derived.Lib.Builder
import Derived.Laws.Externs
import Derived.Deep.RegionLaw
import Derived.Laws.BytesString
namespace Go.Proofs.YtbijdflgjelpnaaGreatDoor
open Go Go.RowKit

theorem sizeBuilder : (Tryz.prog.info? 55).map (·.size) = some 2 := by kernel_rfl

theorem liesBuilder : liesAt Tryz.prog Tryz.prog.depth 58 (3 / Tryz.prog.cellsOf 58) 0 55 1 = true := by kernel_rfl

/-- A teller: what it has told (out), its rows' slice r. -/
structure TellAt (B tb : Nat) (out : List UInt8) (r : Value) (w : World) : Prop where
  hB : B ≤ tb
  blk : ∃ p v, w.heap[tb]? = some (.cells #[p, v, r] 58 (0, 0)) ∧ (p = .pointer none ∨ p = .pointer (some ⟨tb, 0, none⟩)) ∧ w.ownsRow B 5 1 v out.length (Lib.byteCells out)

/-- Rows that are no bytes' stay. -/
def Kp (tb : Nat) (w w' : World) : Prop := w.heap.size ≤ w'.heap.size ∧ ∀ (k : Nat) (c : Array Value) (e : TypeId) f, k ≠ tb → e ≠ 5 → w.heap[k]? = some (.cells c e f) → w'.heap[k]? = some (.cells c e f)

theorem Kp.refl (tb : Nat) (w : World) : Kp tb w w := ⟨Nat.le_refl _, fun _ _ _ _ _ _ h => h⟩

theorem Kp.trans {tb : Nat} {a b c : World} (h : Kp tb a b) (k : Kp tb b c) : Kp tb a c := ⟨Nat.le_trans h.1 k.1, fun i x e f h1 h2 h3 => k.2 i x e f h1 h2 (h.2 i x e f h1 h2 h3)⟩

theorem Kp.alloc {tb : Nat} {a b : World} (h : Kp tb a b) (o : Obj) : Kp tb a (b.alloc o) :=
  h.trans ⟨by simp, fun i x e f _ _ h3 => (heap_alloc_old b o (r := i) (Array.getElem?_eq_some_iff.1 h3).1).trans h3⟩

theorem Kp.setCell {tb : Nat} {a b : World} (h : Kp tb a b) (i : Nat) (v : Value) : Kp tb a (b.setCell ⟨tb, i, none⟩ v) :=
  h.trans ⟨by simp [World.setCell], fun k x e f h1 _ h3 => (heap_setCell_other _ _ _ _ h1).trans h3⟩

theorem Kp.drew {tb : Nat} {a b : World} (h : Kp tb a b) : Kp tb a b.drew := h

theorem TellAt.lt {B tb : Nat} {out : List UInt8} {r : Value} {w : World} (h : TellAt B tb out r w) : tb < w.heap.size := by
  obtain ⟨_, p, v, h1, _⟩ := h
  exact (Array.getElem?_eq_some_iff.1 h1).1

theorem TellAt.rows {B tb : Nat} {out : List UInt8} {r : Value} {w : World} (h : TellAt B tb out r w) : w.cell? ⟨tb, 2, none⟩ = some r := by
  obtain ⟨_, p, v, h1, _⟩ := h
  exact cell_of_row w tb 2 _ _ _ h1

/-- What leaves the teller's block, and rows of bytes, keeps a teller. -/
theorem TellAt.keep {B tb : Nat} {out : List UInt8} {r : Value} {w w' : World} (h : TellAt B tb out r w) (hk : ∀ (k : Nat) (c : Array Value) (e : TypeId), (e = 58 ∨ e = 5) → w.heap[k]? = some (.cells c e (0, 0)) → w'.heap[k]? = some (.cells c e (0, 0))) : TellAt B tb out r w' := by
  obtain ⟨h0, p, v, h1, h2, h3⟩ := h
  refine ⟨h0, p, v, hk _ _ _ (.inl rfl) h1, h2, h3.1, ?_⟩
  rcases h3.2 with e | ⟨g, cap, cur, e1, e2, e3, e4⟩
  · exact .inl e
  · exact .inr ⟨g, cap, cur, e1, e2, hk _ _ _ (.inr rfl) e3, e4⟩

theorem TellAt.alloc {B tb : Nat} {out : List UInt8} {r : Value} {w : World} (h : TellAt B tb out r w) (o : Obj) : TellAt B tb out r (w.alloc o) :=
  h.keep fun k _c _e _ h3 => (heap_alloc_old w o (r := k) (Array.getElem?_eq_some_iff.1 h3).1).trans h3

theorem TellAt.drew {B tb : Nat} {out : List UInt8} {r : Value} {w : World} (h : TellAt B tb out r w) : TellAt B tb out r w.drew := ⟨h.hB, h.blk⟩

set_option maxHeartbeats 1000000 in
set_option maxRecDepth 100000 in
theorem copyCheck_used (b : Nat) (w : World) (h0 : w.cell? ⟨b, 0, none⟩ = some (.pointer (some ⟨b, 0, none⟩))) :
    Calls Tryz.prog 72 #[.pointer (some ⟨b, 0, none⟩)] w fun e w' => e = .returned (.tuple #[]) ∧ w' = w := by
  obtain ⟨j, hj, _⟩ := Option.map_eq_some_iff.1 sizeBuilder
  go_enter Tryz.func72, Tryz.ntmps72
  go_wp2
  rw [Lib.run_neq_ptr_same w _ Tryz.underlying53 hj]
  go_wp2
  go_end0
  exact ⟨rfl, rfl⟩

set_option maxHeartbeats 1000000 in
set_option maxRecDepth 100000 in
theorem copyCheck_fresh (b : Nat) (w : World) (h0 : w.cell? ⟨b, 0, none⟩ = some (.pointer none)) (hsh : w.shape? b = some (58, 3)) (hfz : w.frozen? ⟨b, 0, none⟩ = false) :
    Calls Tryz.prog 72 #[.pointer (some ⟨b, 0, none⟩)] w fun e w' => e = .returned (.tuple #[]) ∧ w' = w.setCell ⟨b, 0, none⟩ (.pointer (some ⟨b, 0, none⟩)) := by
  obtain ⟨j, hj, hjs⟩ := Option.map_eq_some_iff.1 sizeBuilder
  go_enter Tryz.func72, Tryz.ntmps72
  go_wp2
  rw [Lib.run_to_unsafe w ⟨b, 0, none⟩ Tryz.underlying53 Tryz.underlying113 hj (by rw [hjs]; decide) hsh (Nat.zero_lt_succ 2)]
  simp only [Result.andThen]
  rw [Oper.upon_value]
  go_wp2
  rw [run_callFunc_extern Tryz.func81 (by kernel_rfl) (by kernel_rfl) (by kernel_rfl) (e := Extern.AbiNoEscape.same) (by kernel_rfl)]
  rw [Lib.run_noEscape]
  simp only [Result.andThen]
  rw [Oper.upon_value]
  go_wp2
  rw [Lib.run_from_unsafe w ⟨b, 0, none⟩ Tryz.underlying113 Tryz.underlying53 hj hsh liesBuilder]
  simp only [Result.andThen]
  rw [Oper.upon_value]
  go_wp2
  go_end0
  exact ⟨rfl, rfl⟩

/-- One byte row has grown, and lies in the teller. -/
theorem TellAt.put {B tb : Nat} {out : List UInt8} {p v r v' : Value} {w w2 : World} {s : ByteArray} (hB : B ≤ tb) (h1 : w.heap[tb]? = some (.cells #[p, v, r] 58 (0, 0))) (hp : p = .pointer none ∨ p = .pointer (some ⟨tb, 0, none⟩))
    (hown : w.ownsRow B 5 1 v out.length (Lib.byteCells out)) (hown' : w2.ownsRow B 5 1 v' (out.length + s.size) (Lib.byteCells out ++ Lib.strCells s)) (hgrow : w.grownBy w2 v.ownBlock) (hBw : B ≤ w.heap.size) :
    w2.heap[tb]? = some (.cells #[p, v, r] 58 (0, 0)) ∧ TellAt B tb (out ++ s.data.toList) r (w2.setCell ⟨tb, 1, none⟩ v') ∧ Below B w (w2.setCell ⟨tb, 1, none⟩ v') ∧ Kp tb w (w2.setCell ⟨tb, 1, none⟩ v') := by
  have hlt : tb < w.heap.size := (Array.getElem?_eq_some_iff.1 h1).1
  have hne : v.ownBlock ≠ some tb := fun e => by
    rcases hown.2 with ⟨e0, _⟩ | ⟨g, cap, cur, e1, e2, e3, _⟩
    · rw [e0] at e; cases e
    · rw [e1] at e
      have eg : g = tb := by simpa [Value.ownBlock] using e
      rw [eg, h1] at e3
      simp at e3
  have hne' : v'.ownBlock ≠ some tb := fun e => by
    rcases hown'.2 with ⟨e0, _⟩ | ⟨g, cap, cur, e1, e2, e3, _⟩
    · rw [e0] at e; cases e
    · rw [e1] at e
      have eg : g = tb := by simpa [Value.ownBlock] using e
      have h2 := (hgrow.block tb hlt (fun e => hne e.symm)).trans h1
      rw [eg, h2] at e3
      simp at e3
  have h2 : w2.heap[tb]? = some (.cells #[p, v, r] 58 (0, 0)) := (hgrow.block tb hlt (fun e => hne e.symm)).trans h1
  refine ⟨h2, ⟨hB, p, v', heap_setCell_same w2 tb 1 _ _ _ h2, hp, ?_⟩, ?_, ?_⟩
  · have e1 : (out ++ s.data.toList).length = out.length + s.size := by rw [List.length_append, bytes_len]
    have e2 : Lib.byteCells (out ++ s.data.toList) = Lib.byteCells out ++ Lib.strCells s := by rw [Lib.byteCells_append, Lib.strCells_eq]
    rw [e1, e2]
    refine ⟨hown'.1, ?_⟩
    rcases hown'.2 with e | ⟨g, cap, cur, e1, e2, e3, e4⟩
    · exact .inl e
    · exact .inr ⟨g, cap, cur, e1, e2, (heap_setCell_other _ _ _ _ (fun e => hne' (by rw [e1]; simp [Value.ownBlock, e]))).trans e3, e4⟩
  · exact ((Below.refl B w).grown hgrow hBw (fun k hk => (hown.lt k hk).1)).setCell (p := ⟨tb, 1, none⟩) hB _
  · refine Kp.setCell ⟨hgrow.size, fun k c e f hk he h3 => (hgrow.block k (Array.getElem?_eq_some_iff.1 h3).1 (fun e' => ?_)).trans h3⟩ _ _
    rcases hown.2 with ⟨e0, _⟩ | ⟨g, cap, cur, e1, e2, e3, _⟩
    · rw [e0] at e'; cases e'
    · rw [e1] at e'
      have eg : k = g := by simpa [Value.ownBlock] using e'
      rw [← eg, h3] at e3
      simp at e3
      exact he e3.2.1

set_option maxHeartbeats 2000000 in
set_option maxRecDepth 100000 in
theorem writeString_any (B tb : Nat) (out : List UInt8) (r : Value) (s : ByteArray) (w : World) (h : TellAt B tb out r w) (hlen : out.length + s.size ≤ 140737488355328) (hBw : B ≤ w.heap.size) :
    Calls Tryz.prog 57 #[.pointer (some ⟨tb, 0, none⟩), .string s] w fun e w' => e = .returned (.tuple #[.int .i64 s.size, .nilIface]) ∧ TellAt B tb (out ++ s.data.toList) r w' ∧ Below B w w' ∧ Kp tb w w' := by
  obtain ⟨i0, hi, hz0, hz1, hz2⟩ := info_parts infoU8
  obtain ⟨hB, p, v, h1, hp, hown⟩ := h
  have K : Calls Tryz.prog 72 #[.pointer (some ⟨tb, 0, none⟩)] w fun e w1 => e = .returned (.tuple #[]) ∧ w1.heap[tb]? = some (.cells #[.pointer (some ⟨tb, 0, none⟩), v, r] 58 (0, 0)) ∧ w1.ownsRow B 5 1 v out.length (Lib.byteCells out) ∧ Below B w w1 ∧ Kp tb w w1 ∧ w1.heap.size = w.heap.size := by
    rcases hp with rfl | rfl
    · refine (copyCheck_fresh tb w (cell_of_row w tb 0 _ _ _ h1) (by simp [World.shape?, h1]) (frozen_of_row w tb 0 _ _ h1)).mono ?_
      rintro e w1 ⟨rfl, rfl⟩
      refine ⟨rfl, heap_setCell_same w tb 0 _ _ _ h1, ⟨hown.1, ?_⟩, (Below.refl B w).setCell (p := ⟨tb, 0, none⟩) hB _, (Kp.refl tb w).setCell _ _, by simp [World.setCell]⟩
      rcases hown.2 with e | ⟨g, cap, cur, e1, e2, e3, e4⟩
      · exact .inl e
      · refine .inr ⟨g, cap, cur, e1, e2, (heap_setCell_other _ _ _ _ (fun e => ?_)).trans e3, e4⟩
        rw [e, h1] at e3
        simp at e3
    · refine (copyCheck_used tb w (cell_of_row w tb 0 _ _ _ h1)).mono ?_
      rintro e w1 ⟨rfl, rfl⟩
      exact ⟨rfl, h1, hown, Below.refl B _, Kp.refl tb _, rfl⟩
  have HK := hide K
  clear K h1 hown hp
  go_enter Tryz.func57, Tryz.ntmps57
  go_wp2_with (go_at_call 72; refine HK.out.mono ?_)
  rintro e w1 ⟨rfl, h1, hown, hb1, hk1, hs1⟩
  have HS1 := hide hs1
  clear hs1
  have c1 := cell_of_row w1 tb 1 _ _ _ h1
  simp at c1
  obtain ⟨ao, cap, rfl⟩ : ∃ ao cap, v = .slice ao out.length cap := by
    rcases hown.2 with ⟨e, e0⟩ | ⟨g, cap, cur, e, _⟩
    · exact ⟨none, 0, by rw [e, e0]⟩
    · exact ⟨_, _, e⟩
  go_wp2_with (at_builtin; refine Lib.wpList_append_own_string _ rfl _ _ 37 9 rfl B 5 i0 Tryz.underlying37 Tryz.underlying9 hi hz0 hz1 hz2 _ _ _ rfl hown s rfl ?c3 ?c4 ?c5 ?_)
  case c3 => unfold maxLen; omega
  case c4 => omega
  case c5 => have := HS1.out; omega
  intro v' w2 hown' hgrow _
  obtain ⟨h2, T2, B2, K2⟩ := TellAt.put hB h1 (.inr rfl) hown hown' hgrow (by have := HS1.out; omega)
  have d1 := cell_of_row w2 tb 1 _ _ _ h2
  simp at d1
  have f1 := frozen_of_row w2 tb 1 _ _ h2
  obtain ⟨ao', n', cap', rfl⟩ : ∃ ao n' cap, v' = .slice ao n' cap := by
    rcases hown'.2 with ⟨e, _⟩ | ⟨g, cap, cur, e, _⟩
    · exact ⟨_, _, _, e⟩
    · exact ⟨_, _, _, e⟩
  have HT := hide T2
  have HB := hide (hb1.trans B2)
  have HQ := hide (hk1.trans K2)
  clear T2 B2 K2 hown' hgrow hown h1 h2 hb1 hk1
  go_wp2
  go_ret2
  exact ⟨rfl, HT.out, HB.out, HQ.out⟩

set_option maxHeartbeats 2000000 in
set_option maxRecDepth 100000 in
theorem bstring_any (B tb : Nat) (out : List UInt8) (r : Value) (w : World) (h : TellAt B tb out r w) (h63 : out.length ≤ 140737488355328) :
    Calls Tryz.prog 25 #[.pointer (some ⟨tb, 0, none⟩)] w fun e w' => e = .returned (.string ⟨out.toArray⟩) ∧ Below B w w' := by
  obtain ⟨hB, p, v, h1, hp, hown⟩ := h
  have c1 : w.drew.cell? ⟨tb, 1, none⟩ = some v := by
    have : w.drew.heap[tb]? = some (.cells #[p, v, r] 58 (0, 0)) := h1
    rw [Lib.cell_of_heap this]; rfl
  have hUN : ∀ (W : World) (q : Option Addr), (Builtin.unsafeString_ #[82, 3] 9 #[.pointer q, .int .i64 0]).run Tryz.prog W = .ok (.string .empty) W := fun W q => Lib.run_unsafeString_none W _ _ _ q
  have hn0 := @Lib.run_unsafeSliceData_nil Tryz.prog
  by_cases h0 : out = []
  · subst h0
    rcases hown.2 with ⟨rfl, _⟩ | ⟨g, cap, cur, rfl, hbg, hg, hnc, hcm, hcs, htake⟩
    · have hSD := Lib.run_unsafeSliceData_nil (P := Tryz.prog) w.drew #[37] 82 0 0
      clear h1 hown hn0
      go_enter Tryz.func25, Tryz.ntmps25
      go_wp2
      go_region
      all_goals (go_wp2; go_ret; exact ⟨rfl, Below.drew (Below.refl B w)⟩)
    · by_cases hc0 : cap = 0
      · subst hc0
        have hSD := Lib.run_unsafeSliceData_zero (P := Tryz.prog) w.drew #[37] 82 5 Tryz.underlying82 ⟨g, 0, none⟩ 0 (5, cur.size) (by have hg' : w.drew.heap[g]? = some (.cells cur 5 (0, 0)) := hg; simp [World.shape?, hg'])
        have c2 : (w.alloc (.view ⟨g, 0, none⟩ 5)).drew.cell? ⟨tb, 1, none⟩ = some (.slice (some ⟨g, 0, none⟩) 0 0) := (World.cell?_of_block (w := w) (heap_alloc_old w _ (r := tb) (Array.getElem?_eq_some_iff.1 h1).1)).trans (by rw [Lib.cell_of_heap h1]; rfl)
        have hBw : B ≤ w.heap.size := Nat.le_trans hB (Nat.le_of_lt (Array.getElem?_eq_some_iff.1 h1).1)
        clear h1 hown hn0
        go_enter Tryz.func25, Tryz.ntmps25
        go_wp2
        go_region
        all_goals (go_wp2; go_ret; exact ⟨rfl, Below.drew ((Below.refl B w).alloc hBw _)⟩)
      · have hSD := Lib.run_unsafeSliceData_row (P := Tryz.prog) w.drew #[37] 82 ⟨g, 0, none⟩ 0 cap hc0
        clear h1 hown hn0
        go_enter Tryz.func25, Tryz.ntmps25
        go_wp2
        go_region
        all_goals (go_wp2; go_ret; exact ⟨rfl, Below.drew (Below.refl B w)⟩)
  · have hl0 : out.length ≠ 0 := by simpa using h0
    obtain ⟨g, cap, cur, rfl, hbg, hg, hnc, hcm, hcs, htake⟩ : ∃ g cap cur, v = .slice (some ⟨g, 0, none⟩) out.length cap ∧ B ≤ g ∧ w.heap[g]? = some (.cells cur 5 (0, 0)) ∧ out.length ≤ cap ∧ cap ≤ maxLen ∧ cur.size = cap * 1 ∧ cur.toList.take (out.length * 1) = Lib.byteCells out := by
      rcases hown.2 with ⟨_, hz⟩ | ⟨g, cap, cur, hv, q⟩
      · exact absurd hz hl0
      · exact ⟨g, cap, cur, hv, q⟩
    have hSD : (Builtin.unsafeSliceData_ #[37] 82 #[.slice (some ⟨g, 0, none⟩) out.length cap]).run Tryz.prog w.drew = .ok (.pointer (some ⟨g, 0, none⟩)) w.drew :=
      Lib.run_unsafeSliceData_row _ _ _ _ _ _ (by omega)
    have hUS : (Builtin.unsafeString_ #[82, 3] 9 #[.pointer (some ⟨g, 0, none⟩), .int .i64 out.length]).run Tryz.prog w.drew = .ok (.string ⟨out.toArray⟩) (w.drew.freeze ⟨g, 0, none⟩ out.length) := by
      refine Lib.run_unsafeString_row w.drew 82 3 9 5 Tryz.underlying82 (by kernel_rfl) g cur.size (by have hg' : w.drew.heap[g]? = some (.cells cur 5 (0, 0)) := hg; simp [World.shape?, hg']) out h0 (by omega) (by omega) ?_
      intro j x hx
      have := hown.cells (g := g) rfl j (.int .u8 x.toNat) (by simp [Lib.byteCells, hx])
      exact this
    clear hUN hn0 hown h1 htake
    go_enter Tryz.func25, Tryz.ntmps25
    go_wp2
    go_region
    all_goals (go_wp2; go_ret; exact ⟨rfl, Lib.below_freeze (Below.drew (Below.refl B w)) (p := ⟨g, 0, none⟩) hbg _⟩)

def flat (l : List ByteArray) : List UInt8 := l.flatMap fun s => s.data.toList

theorem flat_take (l : List ByteArray) {k : Nat} (hk : k < l.length) : flat (l.take (k + 1)) = flat (l.take k) ++ l[k].data.toList := by
  unfold flat
  rw [List.take_succ_eq_append_getElem hk, List.flatMap_append]
  simp

theorem flat_le (l : List ByteArray) (k : Nat) : (flat (l.take k)).length ≤ (flat l).length := by
  have : flat l = flat (l.take k) ++ flat (l.drop k) := by
    unfold flat
    rw [← List.flatMap_append, List.take_append_drop]
  rw [this, List.length_append]
  omega

/-- The pieces lie in block g. -/
def PcsAt (w : World) (v : Value) (l : List ByteArray) : Prop :=
  ∃ ao cap, v = .slice ao l.length cap ∧ (l = [] ∨ ∃ g, ao = some ⟨g, 0, none⟩ ∧ w.heap[g]? = some (.cells (l.map Value.string).toArray 9 (0, 0)))

theorem PcsAt.kp {tb : Nat} {w w' : World} {v : Value} {l : List ByteArray} (h : PcsAt w v l) (k : Kp tb w w') (ht : ∃ c, w.heap[tb]? = some (.cells c 58 (0, 0))) : PcsAt w' v l := by
  obtain ⟨ao, cap, e, h⟩ := h
  refine ⟨ao, cap, e, ?_⟩
  rcases h with h | ⟨g, e1, e2⟩
  · exact .inl h
  · refine .inr ⟨g, e1, k.2 _ _ _ _ (fun e => ?_) (by decide) e2⟩
    obtain ⟨c, hc⟩ := ht
    rw [e, hc] at e2
    simp at e2

set_option maxHeartbeats 2000000 in
set_option maxRecDepth 100000 in
theorem put_any (B tb : Nat) (out : List UInt8) (r : Value) (l : List ByteArray) (v : Value) (w : World) (h : TellAt B tb out r w) (hp : PcsAt w v l) (hlen : out.length + (flat l).length ≤ 140737488355328) (hBw : B ≤ w.heap.size) (hl : l.length ≤ 1000) :
    Calls Tryz.prog 38 #[.pointer (some ⟨tb, 0, none⟩), v] w fun e w' => e = .returned (.tuple #[]) ∧ TellAt B tb (out ++ flat l) r w' ∧ Below B w w' ∧ Kp tb w w' := by
  obtain ⟨ao, cap, rfl, -⟩ := id hp
  have HP := hide hp
  have H0 := hide h
  have HL := hide hlen
  clear hp h hlen
  go_enter Tryz.func38, Tryz.ntmps38
  go_wp2_with fail
  go_loopw [8] (fun a8 wr => ∃ k : Nat, k ≤ l.length ∧ a8 = .int .i64 (k : Int) ∧ TellAt B tb (out ++ flat (l.take k)) r wr ∧ Below B w wr ∧ Kp tb w wr) (fun a8 _ => l.length - (intOf a8).toNat)
  case atStart => exact ⟨0, Nat.zero_le _, rfl, by simpa [flat] using H0.out, Below.refl _ _, Kp.refl _ _⟩
  case round =>
    obtain ⟨k, hk, rfl, hT, hb, hK⟩ := hrel
    by_cases hlt : k < l.length
    · have hP := HP.out.kp hK (by obtain ⟨_, p, v, h1, _⟩ := H0.out; exact ⟨_, h1⟩)
      obtain ⟨ao', cap', e, hP⟩ := hP
      cases e
      obtain ⟨g, rfl, hg⟩ : ∃ g, ao = some ⟨g, 0, none⟩ ∧ wr.heap[g]? = some (.cells (l.map Value.string).toArray 9 (0, 0)) := by
        rcases hP with h | h
        · rw [h] at hlt; simp at hlt
        · exact h
      obtain ⟨s, hs⟩ : ∃ s, s = l[k] := ⟨_, rfl⟩
      have cx : wr.cell? ⟨g, k, none⟩ = some (.string s) := by
        rw [cell_of_row wr g k _ _ _ hg, hs]
        simp [hlt]
      have e1 := flat_take l hlt
      rw [← hs] at e1
      have e2 := flat_le l (k + 1)
      have hsz : s.data.toList.length = s.size := bytes_len s
      have KW := writeString_any B tb (out ++ flat (l.take k)) r s wr hT (by have := HL.out; rw [e1] at e2; rw [List.length_append] at *; omega) (by have := hK.1; omega)
      rw [List.append_assoc, ← e1] at KW
      have HW := hide KW
      have hkI : (k : Int) < (l.length : Int) := by omega
      have HB := hide hb
      have HK := hide hK
      clear KW hT hb hK hg hP hs e1 e2 hsz
      go_wp2_with (go_at_call 57; refine HW.out.mono ?_; rintro e w2 ⟨rfl, hT2, hb2, hk2⟩)
      refine ⟨⟨k + 1, by omega, by go_num, hT2, HB.out.trans hb2, HK.out.trans hk2⟩, ?_⟩
      simp [intOf]
      omega
    · have hkK : k = l.length := by omega
      subst hkK
      rw [List.take_length] at hT
      have hkI : ¬ ((l.length : Int) < (l.length : Int)) := by omega
      have HT := hide hT
      clear hT
      go_wp2
      go_end0
      exact ⟨rfl, HT.out, hb, hK⟩

theorem infoRow : (Tryz.prog.info? 80).map (fun i => (i.zero, i.size, i.bytes)) = some (some (.agg #[.int .i64 0, .string ⟨#[]⟩, .slice none 0 0, .slice none 0 0, .string ⟨#[]⟩]), 5, 88) := by kernel_rfl

/-- A row that is told in part. -/
structure RowP where
  h : Nat
  how : Bool
  gap : ByteArray
  left : List (Tr h)
  rest : List (Tr h)
  fin : ByteArray

def howI (b : Bool) : Int := if b then 1 else 0

/-- How it lies in five cells. -/
def RowC (w0 : World) (ρ : RowP) (cs : List Value) : Prop :=
  ∃ lv rv, cs = [.int .i64 (howI ρ.how), .string ρ.gap, lv, rv, .string ρ.fin] ∧ RowD w0 (DatC w0 ρ.h) lv ρ.left ∧ RowD w0 (DatC w0 ρ.h) rv ρ.rest

def RowsC (w0 : World) : List RowP → List Value → Prop
  | [], xs => xs = []
  | ρ :: σ, xs => ∃ cs ys, xs = cs ++ ys ∧ RowC w0 ρ cs ∧ RowsC w0 σ ys

theorem RowC.len {w0 : World} {ρ : RowP} {cs : List Value} (h : RowC w0 ρ cs) : cs.length = 5 := by
  obtain ⟨lv, rv, e, _⟩ := h
  rw [e]; rfl

theorem RowsC.len {w0 : World} : ∀ {σ : List RowP} {xs : List Value}, RowsC w0 σ xs → xs.length = σ.length * 5
  | [], xs, h => by simp [RowsC] at h; simp [h]
  | ρ :: σ, xs, h => by
    obtain ⟨cs, ys, rfl, h1, h2⟩ := h
    rw [List.length_append, h1.len, RowsC.len h2, List.length_cons]
    omega

theorem RowsC.snoc {w0 : World} {ρ : RowP} {cs : List Value} (hc : RowC w0 ρ cs) : ∀ {σ : List RowP} {xs : List Value}, RowsC w0 σ xs → RowsC w0 (σ ++ [ρ]) (xs ++ cs)
  | [], xs, h => by
    simp only [RowsC] at h
    subst h
    exact ⟨cs, [], by simp, hc, rfl⟩
  | τ :: σ, xs, h => by
    obtain ⟨cs', ys, rfl, h1, h2⟩ := h
    exact ⟨cs', ys ++ cs, by simp, h1, RowsC.snoc hc h2⟩

theorem RowsC.last {w0 : World} {ρ : RowP} : ∀ {σ : List RowP} {xs : List Value}, RowsC w0 (σ ++ [ρ]) xs → ∃ ys cs, xs = ys ++ cs ∧ RowsC w0 σ ys ∧ RowC w0 ρ cs
  | [], xs, h => by
    obtain ⟨cs, ys, rfl, h1, h2⟩ := h
    simp only [RowsC] at h2
    subst h2
    exact ⟨[], cs, by simp, rfl, h1⟩
  | τ :: σ, xs, h => by
    obtain ⟨cs', ys, rfl, h1, h2⟩ := h
    obtain ⟨zs, cs, rfl, h3, h4⟩ := RowsC.last h2
    exact ⟨cs' ++ zs, cs, by simp, ⟨cs', zs, rfl, h1, h3⟩, h4⟩

/-- What is still to be told of a row. -/
def pendR (ρ : RowP) : List UInt8 := its (wr ρ.h ρ.how) ρ.gap.data.toList ρ.left ++ dotW (wr ρ.h ρ.how) ρ.rest ++ ρ.fin.data.toList

def pendA (σ : List RowP) : List UInt8 := σ.reverse.flatMap pendR

theorem pendA_snoc (σ : List RowP) (ρ : RowP) : pendA (σ ++ [ρ]) = pendR ρ ++ pendA σ := by simp [pendA]

/-- How much there is of it. -/
def wtR (ρ : RowP) : Nat := 1 + (ρ.left.map (bk ρ.h)).sum + (ρ.rest.map (bk ρ.h)).sum

def wtA (σ : List RowP) : Nat := (σ.map wtR).sum

theorem wtA_snoc (σ : List RowP) (ρ : RowP) : wtA (σ ++ [ρ]) = wtA σ + wtR ρ := by simp [wtA]

theorem wtA_len (σ : List RowP) : σ.length ≤ wtA σ := by
  induction σ with
  | nil => simp
  | cons ρ σ ih => simp only [wtA, List.map_cons, List.sum_cons, List.length_cons, wtR] at *; omega

/-- A teller at work: what lay in w0 is as it was. -/
structure TS (w0 : World) (tb : Nat) (out : List UInt8) (σ : List RowP) (w : World) : Prop where
  up : Up w0 w
  st : ∃ rv xs, TellAt w0.heap.size tb out rv w ∧ w.ownsRow w0.heap.size 80 5 rv σ.length xs ∧ RowsC w0 σ xs

theorem TellAt.block {B tb : Nat} {out : List UInt8} {r : Value} {w : World} (h : TellAt B tb out r w) : ∃ c, w.heap[tb]? = some (.cells c 58 (0, 0)) := by
  obtain ⟨_, p, v, h1, _⟩ := h
  exact ⟨_, h1⟩

theorem ownsRow_kp {B tb : Nat} {w w' : World} {v : Value} {n : Nat} {xs : List Value} (h : w.ownsRow B 80 5 v n xs) (k : Kp tb w w') (ht : ∃ c, w.heap[tb]? = some (.cells c 58 (0, 0))) : w'.ownsRow B 80 5 v n xs := by
  refine ⟨h.1, ?_⟩
  rcases h.2 with e | ⟨g, cap, cur, e1, e2, e3, e4⟩
  · exact .inl e
  · refine .inr ⟨g, cap, cur, e1, e2, k.2 _ _ _ _ (fun e => ?_) (by decide) e3, e4⟩
    obtain ⟨c, hc⟩ := ht
    rw [e, hc] at e3
    simp at e3

/-- Nothing that was there has turned. -/
theorem TS.more {w0 : World} {tb : Nat} {out : List UInt8} {σ : List RowP} {w w' : World} (h : TS w0 tb out σ w) (u : Up w w') : TS w0 tb out σ w' := by
  obtain ⟨h0, rv, xs, h1, h2, h3⟩ := h
  exact ⟨h0.tr u, rv, xs, h1.keep (fun k c e _ h => u.old h), ownsRow_blk h2 (fun g c h => u.old h), h3⟩

theorem TS.lt {w0 : World} {tb : Nat} {out : List UInt8} {σ : List RowP} {w : World} (h : TS w0 tb out σ w) : tb < w.heap.size := by
  obtain ⟨h0, rv, xs, h1, h2, h3⟩ := h
  exact h1.lt

/-- show's put, of a teller at work. -/
theorem put_ts (w0 : World) (tb : Nat) (out : List UInt8) (σ : List RowP) (l : List ByteArray) (v : Value) (w : World) (h : TS w0 tb out σ w) (hp : PcsAt w v l) (hlen : out.length + (flat l).length ≤ 140737488355328) (hl : l.length ≤ 1000) :
    Calls Tryz.prog 38 #[.pointer (some ⟨tb, 0, none⟩), v] w fun e w' => e = .returned (.tuple #[]) ∧ TS w0 tb (out ++ flat l) σ w' ∧ Below w0.heap.size w w' ∧ Kp tb w w' := by
  obtain ⟨h0, rv, xs, h1, h2, h3⟩ := h
  refine (put_any _ tb out rv l v w h1 hp hlen h0.size hl).mono ?_
  rintro e w' ⟨rfl, hT, hb, hk⟩
  exact ⟨rfl, ⟨h0.trans hb, rv, xs, hT, ownsRow_kp h2 hk h1.block, h3⟩, hb, hk⟩

theorem hcells5 (w : World) (c0 c1 c2 c3 c4 : Value) (E : TypeId) : ∀ j u, [c0, c1, c2, c3, c4][j]? = some u → (w.alloc (.cells #[c0, c1, c2, c3, c4] E)).cell? ((⟨w.heap.size, 0, none⟩ : Addr).add j) = some u := by
  intro j u hj
  rw [Addr.add_lit, Nat.zero_add, cell_of_row _ _ j _ _ _ (heap_alloc_new w _)]
  simpa using hj

theorem cells5 {w1 : World} {g : Nat} {c0 c1 c2 c3 c4 : Value} {E : TypeId} {f : Nat × Nat} (h : w1.heap[g]? = some (.cells #[c0, c1, c2, c3, c4] E f)) : w1.cell? ⟨g, 0, none⟩ = some c0 ∧ w1.cell? ⟨g, 1, none⟩ = some c1 ∧ w1.cell? ⟨g, 2, none⟩ = some c2 ∧ w1.cell? ⟨g, 3, none⟩ = some c3 ∧ w1.cell? ⟨g, 4, none⟩ = some c4 :=
  ⟨cell_of_row w1 g 0 _ E f h, cell_of_row w1 g 1 _ E f h, cell_of_row w1 g 2 _ E f h, cell_of_row w1 g 3 _ E f h, cell_of_row w1 g 4 _ E f h⟩

/-- A row more lies in the teller. -/
theorem TS.push {w0 : World} {tb : Nat} {out : List UInt8} {σ : List RowP} {ρ : RowP} {w w2 : World} {rv v' : Value} {xs cs : List Value} {n' : Nat} (h0 : Up w0 w) (h1 : TellAt w0.heap.size tb out rv w) (h2 : w.ownsRow w0.heap.size 80 5 rv σ.length xs) (h3 : RowsC w0 σ xs) (hc : RowC w0 ρ cs)
    (hown' : w2.ownsRow w0.heap.size 80 5 v' n' (xs ++ cs)) (hn : n' = σ.length + 1) (hgrow : w.grownBy w2 rv.ownBlock) :
    w2.cell? ⟨tb, 2, none⟩ = some rv ∧ w2.frozen? ⟨tb, 2, none⟩ = false ∧ TS w0 tb out (σ ++ [ρ]) (w2.setCell ⟨tb, 2, none⟩ v') := by
  obtain ⟨hB, p, v, k1, k2, k3⟩ := h1
  have hlt : tb < w.heap.size := (Array.getElem?_eq_some_iff.1 k1).1
  have hne : rv.ownBlock ≠ some tb := fun e => by
    rcases h2.2 with ⟨e0, _⟩ | ⟨g, cap, cur, e1, e2, e3, _⟩
    · rw [e0] at e; cases e
    · rw [e1] at e
      have eg : g = tb := by simpa [Value.ownBlock] using e
      rw [eg, k1] at e3
      simp at e3
  have kt : w2.heap[tb]? = some (.cells #[p, v, rv] 58 (0, 0)) := (hgrow.block tb hlt (fun e => hne e.symm)).trans k1
  have ku : ∀ (g : Nat) (c : Array Value), w.heap[g]? = some (.cells c 5 (0, 0)) → w2.heap[g]? = some (.cells c 5 (0, 0)) := fun g c h => (hgrow.block g (Array.getElem?_eq_some_iff.1 h).1 (fun e => by
    rcases h2.2 with ⟨e0, _⟩ | ⟨g', cap, cur, e1, e2, e3, _⟩
    · rw [e0] at e; cases e
    · rw [e1] at e
      have eg : g = g' := by simpa [Value.ownBlock] using e
      rw [← eg, h] at e3
      simp at e3)).trans h
  have ne2 : ∀ {g : Nat} {c : Array Value} {E : TypeId}, E ≠ 58 → w2.heap[g]? = some (.cells c E (0, 0)) → g ≠ tb := fun hE hg e => by
    rw [e, kt] at hg
    simp at hg
    exact hE hg.2.symm
  have kset : ∀ {E : TypeId} (g : Nat) (c : Array Value), E ≠ 58 → w2.heap[g]? = some (.cells c E (0, 0)) → (w2.setCell ⟨tb, 2, none⟩ v').heap[g]? = some (.cells c E (0, 0)) := fun g c hE hg => (heap_setCell_other _ _ _ _ (ne2 hE hg)).trans hg
  refine ⟨cell_of_row w2 tb 2 _ _ _ kt, frozen_of_row w2 tb 2 _ _ kt, ⟨?_, v', xs ++ cs, ⟨hB, p, v, heap_setCell_same w2 tb 2 _ _ _ kt, k2, ?_⟩, ?_, h3.snoc hc⟩⟩
  · exact (h0.grown hgrow h0.size (fun k hk => (h2.lt k hk).1)).setCell (p := ⟨tb, 2, none⟩) hB _
  · exact ownsRow_blk (ownsRow_blk k3 ku) (fun g c hg => kset g c (by decide) hg)
  · rw [List.length_append, List.length_singleton, ← hn]
    exact ownsRow_blk hown' (fun g c hg => kset g c (by decide) hg)

set_option maxHeartbeats 4000000 in
set_option maxRecDepth 100000 in
theorem begin_any (w0 : World) (tb : Nat) (out : List UInt8) (σ : List RowP) (ρ : RowP) (l : List ByteArray) (v : Value) (a0 a1 a2 a3 a4 : Value) (w : World) (h : TS w0 tb out σ w) (hp : PcsAt w v l) (hlen : out.length + (flat l).length ≤ 140737488355328) (hl : l.length ≤ 1000) (hc : RowC w0 ρ [a0, a1, a2, a3, a4]) (hσ : σ.length ≤ 1000000000) :
    Calls Tryz.prog 44 #[.pointer (some ⟨tb, 0, none⟩), .agg #[a0, a1, a2, a3, a4], v] w fun e w' => e = .returned (.tuple #[]) ∧ TS w0 tb (out ++ flat l) (σ ++ [ρ]) w' := by
  obtain ⟨iR, hiR, hy0, hy1, hy2⟩ := info_parts infoRow
  obtain ⟨ao, cap, rfl, -⟩ := id hp
  obtain ⟨lv, rv0, he, hc2⟩ := id hc
  obtain ⟨aol, capl, rfl⟩ := hc2.1.shape
  obtain ⟨aor, capr, rfl⟩ := hc2.2.shape
  simp at he
  obtain ⟨rfl, rfl, rfl, rfl, rfl⟩ := he
  clear hc2
  generalize howI ρ.how = H at *
  have K := put_ts w0 tb out σ l (.slice ao l.length cap) (w.alloc (.cells #[.int .i64 H, .string ρ.gap, .slice aol ρ.left.length capl, .slice aor ρ.rest.length capr, .string ρ.fin] 80)) (h.more (up_alloc w _)) (hp.kp (tb := tb) ((Kp.refl tb w).alloc _) (by obtain ⟨_, rv, xs, h1, _⟩ := h; exact h1.block)) hlen hl
  have hbx : (w.alloc (.cells #[.int .i64 H, .string ρ.gap, .slice aol ρ.left.length capl, .slice aor ρ.rest.length capr, .string ρ.fin] 80)).heap[w.heap.size]? = some (.cells #[.int .i64 H, .string ρ.gap, .slice aol ρ.left.length capl, .slice aor ρ.rest.length capr, .string ρ.fin] 80 (0, 0)) := heap_alloc_new w _
  have hlt := h.lt
  have HK := hide K
  have HX := hide hbx
  have HC := hide hc
  have HL := hide hlt
  have HS := hide hσ
  clear K hbx hc hlt hlen hl h hp hσ
  go_enter Tryz.func44, Tryz.ntmps44
  go_wp2_with (go_at_call 38; refine HK.out.mono ?_; rintro e w2 ⟨rfl, hT, hb, hk⟩)
  have hbx := hk.2 _ _ _ _ (by have := HL.out; omega) (by decide) HX.out
  obtain ⟨d0, d1, d2, d3, d4⟩ := cells5 hbx
  obtain ⟨hu, rv, xs, h1, h2, h3⟩ := hT
  obtain ⟨aoR, capR, rfl⟩ : ∃ ao cap, rv = .slice ao σ.length cap := by
    rcases h2.2 with ⟨e, e0⟩ | ⟨g, cap, cur, e, _⟩
    · exact ⟨none, 0, by rw [e, e0]⟩
    · exact ⟨_, _, e⟩
  have c0 := h1.rows
  have c1 : (w2.alloc (.cells #[.int .i64 H, .string ρ.gap, .slice aol ρ.left.length capl, .slice aor ρ.rest.length capr, .string ρ.fin] 80)).cell? ⟨tb, 2, none⟩ = some (.slice aoR σ.length capR) := (World.cell?_of_block (w := w2) (heap_alloc_old w2 _ (r := tb) h1.lt)).trans c0
  have hown : (w2.drew.alloc (.cells #[.int .i64 H, .string ρ.gap, .slice aol ρ.left.length capl, .slice aor ρ.rest.length capr, .string ρ.fin] 80)).ownsRow w0.heap.size 80 5 (.slice aoR σ.length capR) σ.length xs := World.ownsRow.alloc (w := w2.drew) h2 _
  have HH := hide (And.intro hu (And.intro h1 (And.intro h2 h3)))
  have hs := hu.size
  clear hbx hb hk hu h1 h2 h3
  go_region_law
    ((refine step_append_lies _ (by rfl) _ _ 56 (by rfl) w0.heap.size 80 iR (.agg #[.int .i64 0, .string ⟨#[]⟩, .slice none 0 0, .slice none 0 0, .string ⟨#[]⟩]) 5 88 Tryz.underlying56 hiR hy0 hy1 hy2 rfl (by decide) (.slice aoR σ.length capR) σ.length xs (by rfl) hown ⟨w2.heap.size, 0, none⟩ 1 1 [.int .i64 H, .string ρ.gap, .slice aol ρ.left.length capl, .slice aor ρ.rest.length capr, .string ρ.fin] (by rfl) rfl (hcells5 w2.drew _ _ _ _ _ _) (fun u hu => by simp at hu; rcases hu with rfl | rfl | rfl | rfl | rfl <;> rfl) (by decide) (by unfold maxLen; have := HS.out; omega) (by have := HS.out; omega) (by simp; omega) (w2.heap.size + 1) (by simp) ?_; intro g9 cap9 w9 hown9 hgrow9 hat9 hlt9; obtain ⟨q1, q2, q3⟩ := TS.push (w := w2.drew.alloc (.cells #[.int .i64 H, .string ρ.gap, .slice aol ρ.left.length capl, .slice aor ρ.rest.length capr, .string ρ.fin] 80)) ((HH.out.1.tr (up_drew w2)).tr (up_alloc _ _)) (HH.out.2.1.drew.alloc _) hown HH.out.2.2.2 HC.out hown9 rfl hgrow9; have HQ := hide q3; clear q3 hown9 hgrow9 hat9 hlt9))
  all_goals (go_wp2; go_end0; exact ⟨rfl, HQ.out⟩)

set_option maxHeartbeats 1000000 in
set_option maxRecDepth 100000 in
theorem oneByte_any (b : UInt8) (w : World) :
    Calls Tryz.prog 60 #[.int .u8 (b.toNat : Int)] w fun e w' => e = .returned (.string ⟨#[b]⟩) ∧ Up w w' := by
  have kc := conv_new w [b] 1
  simp only [Lib.byteCells, List.map_cons, List.map_nil, List.length_cons, List.length_nil, Nat.zero_add] at kc
  go_enter Tryz.func60, Tryz.ntmps60
  go_wp2
  go_ret
  exact ⟨rfl, up_alloc w _⟩

theorem truth_any (n : Int) (w : World) :
    Calls Tryz.prog 40 #[.int .i64 n] w fun e w' => e = .returned (.string (if n = 1 then ⟨#[35, 116]⟩ else ⟨#[35, 102]⟩)) ∧ w' = w := by
  by_cases h : n = 1
  · rw [if_pos h]
    subst h
    go_enter Tryz.func40, Tryz.ntmps40
    go_wp2
    go_ret
    exact ⟨rfl, rfl⟩
  · rw [if_neg h]
    go_enter Tryz.func40, Tryz.ntmps40
    go_wp2
    go_ret
    exact ⟨rfl, rfl⟩

theorem hex_get (k : Nat) (hk : k < 16) : ∀ h, (⟨#[48, 49, 50, 51, 52, 53, 54, 55, 56, 57, 97, 98, 99, 100, 101, 102]⟩ : ByteArray)[k]'h = hexd k := by
  have : k = 0 ∨ k = 1 ∨ k = 2 ∨ k = 3 ∨ k = 4 ∨ k = 5 ∨ k = 6 ∨ k = 7 ∨ k = 8 ∨ k = 9 ∨ k = 10 ∨ k = 11 ∨ k = 12 ∨ k = 13 ∨ k = 14 ∨ k = 15 := by omega
  rcases this with rfl | rfl | rfl | rfl | rfl | rfl | rfl | rfl | rfl | rfl | rfl | rfl | rfl | rfl | rfl | rfl <;> (intro h; rfl)

set_option maxHeartbeats 1000000 in
set_option maxRecDepth 100000 in
theorem twoDigits_any (b : UInt8) (w : World) :
    Calls Tryz.prog 74 #[.int .u8 (b.toNat : Int)] w fun e w' => e = .returned (.string ⟨(two b.toNat).toArray⟩) ∧ Up w w' := by
  obtain ⟨n, hn⟩ : ∃ n, n = b.toNat := ⟨_, rfl⟩
  have hb : n < 256 := by rw [hn]; exact b.toNat_lt
  rw [← hn]
  have HN := hide hn
  clear hn
  have l0 : 0 ≤ (n : Int) % 16 := by omega
  have l1 : (n : Int) % 16 < 16 := by omega
  have l2 : ((n : Int) % 16).toNat = n % 16 := by omega
  have u0 : 0 ≤ (n : Int) / 16 := by omega
  have u1 : (n : Int) / 16 < 16 := by omega
  have u2 : ((n : Int) / 16).toNat = n / 16 := by omega
  have x1 := hex_get (n / 16) (by omega)
  have x2 := hex_get (n % 16) (by omega)
  have kc := conv_at (w.alloc (.cells (Lib.byteCells [hexd (n / 16), hexd (n % 16)]).toArray 5)).drew w.heap.size [hexd (n / 16), hexd (n % 16)] 2 (heap_alloc_new w _)
  simp only [Lib.byteCells, List.map_cons, List.map_nil, List.length_cons, List.length_nil, Nat.zero_add, Nat.reduceAdd] at kc
  go_enter Tryz.func74, Tryz.ntmps74
  go_wp2
  go_region
  all_goals (go_wp2; go_ret; exact ⟨rfl, (up_alloc w _).tr (up_drew _)⟩)

set_option maxHeartbeats 2000000 in
set_option maxRecDepth 100000 in
theorem letterName_any (n : Int) (hn : -9223372036854775808 ≤ n ∧ n ≤ 9223372036854775807) (w : World) :
    Calls Tryz.prog 61 #[.int .i64 n] w fun e w' => e = .returned (.string ⟨(chW n).toArray⟩) ∧ Up w w' := by
  have hb : n % 256 = (((n % 256).toNat.toUInt8).toNat : Int) := by simp; omega
  have hu : (n % 256).toNat.toUInt8.toNat = (n % 256).toNat := by simp; omega
  unfold chW
  by_cases h1 : n = 32
  · subst h1
    go_enter Tryz.func61, Tryz.ntmps61
    go_wp2
    go_ret
    exact ⟨rfl, Up.refl w⟩
  rw [if_neg h1]
  by_cases h2 : n = 10
  · subst h2
    go_enter Tryz.func61, Tryz.ntmps61
    go_wp2
    go_ret
    exact ⟨rfl, Up.refl w⟩
  rw [if_neg h2]
  by_cases h3 : n = 9
  · subst h3
    go_enter Tryz.func61, Tryz.ntmps61
    go_wp2
    go_ret
    exact ⟨rfl, Up.refl w⟩
  rw [if_neg h3]
  by_cases h4 : n = 0
  · subst h4
    go_enter Tryz.func61, Tryz.ntmps61
    go_wp2
    go_ret
    exact ⟨rfl, Up.refl w⟩
  rw [if_neg h4]
  have K1 := fun w => oneByte_any ((n % 256).toNat.toUInt8) w
  have K2 := fun w => twoDigits_any ((n % 256).toNat.toUInt8) w
  rw [← hb] at K1 K2
  rw [hu] at K2
  unfold two at *
  generalize (n % 256).toNat.toUInt8 = b at *
  generalize hexd ((n % 256).toNat / 16) = x at *
  generalize hexd ((n % 256).toNat % 16) = y at *
  have HK2 := hide K2
  clear K2 hb hu
  by_cases h5 : 32 < n ∧ n ≤ 126
  · rw [if_pos h5]
    obtain ⟨h6, h7⟩ := h5
    have hm : n % 256 = n := by omega
    rw [hm] at K1
    have HK1 := hide K1
    clear K1 hm
    go_enter Tryz.func61, Tryz.ntmps61
    go_wp2_with (go_at_call 60; refine (HK1.out _).mono ?_; rintro e w2 ⟨rfl, hu2⟩)
    go_ret
    exact ⟨rfl, hu2⟩
  · rw [if_neg h5]
    have h8 : ¬ 32 < n ∨ (32 < n ∧ ¬ n ≤ 126) := by omega
    clear h5 K1
    rcases h8 with h8 | ⟨h8, h9⟩
    · go_enter Tryz.func61, Tryz.ntmps61
      go_wp2_with (go_at_call 74; refine (HK2.out _).mono ?_; rintro e w2 ⟨rfl, hu2⟩)
      go_ret
      exact ⟨rfl, hu2⟩
    · go_enter Tryz.func61, Tryz.ntmps61
      go_wp2_with (go_at_call 74; refine (HK2.out _).mono ?_; rintro e w2 ⟨rfl, hu2⟩)
      go_ret
      exact ⟨rfl, hu2⟩

theorem pcs_new (w : World) (l : List ByteArray) (cap : Nat) : PcsAt (w.alloc (.cells (l.map Value.string).toArray 9)) (.slice (some ⟨w.heap.size, 0, none⟩) l.length cap) l :=
  ⟨_, cap, rfl, .inr ⟨_, rfl, heap_alloc_new w _⟩⟩

/-- show's put of new pieces. -/
theorem put_new (w0 : World) (tb : Nat) (out : List UInt8) (σ : List RowP) (l : List ByteArray) (cap : Nat) (w : World) (h : TS w0 tb out σ w) (hlen : out.length + (flat l).length ≤ 140737488355328) (hl : l.length ≤ 1000) :
    Calls Tryz.prog 38 #[.pointer (some ⟨tb, 0, none⟩), .slice (some ⟨w.heap.size, 0, none⟩) l.length cap] (w.alloc (.cells (l.map Value.string).toArray 9)) fun e w' => e = .returned (.tuple #[]) ∧ TS w0 tb (out ++ flat l) σ w' ∧ Below w0.heap.size w w' ∧ Kp tb w w' := by
  refine (put_ts w0 tb out σ l _ _ (h.more (up_alloc w _)) (pcs_new w l cap) hlen hl).mono ?_
  rintro e w' ⟨rfl, h1, h2, h3⟩
  exact ⟨rfl, h1, ((Below.refl _ w).alloc h.up.size _).trans h2, ((Kp.refl tb w).alloc _).trans h3⟩

theorem TS.kp {w0 : World} {tb : Nat} {out : List UInt8} {σ : List RowP} {w : World} (h : TS w0 tb out σ w) : w0.heap.size ≤ w.heap.size := h.up.size

set_option maxHeartbeats 2000000 in
set_option maxRecDepth 100000 in
theorem letter_any (w0 : World) (tb : Nat) (out : List UInt8) (σ : List RowP) (n : Int) (hn : -9223372036854775808 ≤ n ∧ n ≤ 9223372036854775807) (sh : Bool) (w : World) (h : TS w0 tb out σ w) (hlen : out.length + 100 ≤ 140737488355328) :
    Calls Tryz.prog 41 #[.pointer (some ⟨tb, 0, none⟩), .int .i64 n, .int .i64 (howI sh)] w fun e w' => e = .returned (.tuple #[]) ∧ TS w0 tb (out ++ (if sh then [(n % 256).toNat.toUInt8] else [35, 92] ++ chW n)) σ w' := by
  cases sh
  · have hcl := chW_le n
    have KL := fun w => letterName_any n hn w
    generalize chW n = c at *
    have KP := fun (W : World) (hW : TS w0 tb out σ W) => put_new w0 tb out σ [⟨#[35, 92]⟩, ⟨c.toArray⟩] 2 W hW (by simp [flat]; omega) (by simp)
    have e1 : flat [⟨#[35, 92]⟩, ⟨c.toArray⟩] = [35, 92] ++ c := by simp [flat]
    rw [e1] at KP
    simp only [List.map_cons, List.map_nil, List.length_cons, List.length_nil, Nat.zero_add, Nat.reduceAdd] at KP
    have HL := hide KL
    have HP := hide KP
    have HH := hide h
    simp only [howI, Bool.false_eq_true, if_false]
    clear KL KP h e1
    go_enter Tryz.func41, Tryz.ntmps41
    go_wp2_with (first
      | (go_at_call 61; refine (HL.out _).mono ?_; rintro e w2 ⟨rfl, hu2⟩; have HU2 := hide hu2; clear hu2)
      | (go_at_call 38; refine (HP.out _ (HH.out.more HU2.out)).mono ?_; rintro e w3 ⟨rfl, h3, -, -⟩))
    go_end0
    exact ⟨rfl, h3⟩
  · have hb : n % 256 = (((n % 256).toNat.toUInt8).toNat : Int) := by simp; omega
    have KL := fun w => oneByte_any ((n % 256).toNat.toUInt8) w
    rw [← hb] at KL
    generalize (n % 256).toNat.toUInt8 = c at *
    have KP := fun (W : World) (hW : TS w0 tb out σ W) => put_new w0 tb out σ [⟨#[c]⟩] 1 W hW (by simp [flat]; omega) (by simp)
    have e1 : flat [⟨#[c]⟩] = [c] := by simp [flat]
    rw [e1] at KP
    simp only [List.map_cons, List.map_nil, List.length_cons, List.length_nil, Nat.zero_add] at KP
    have HL := hide KL
    have HP := hide KP
    have HH := hide h
    simp only [howI, if_true]
    clear KL KP h e1 hb
    go_enter Tryz.func41, Tryz.ntmps41
    go_wp2_with (first
      | (go_at_call 60; refine (HL.out _).mono ?_; rintro e w2 ⟨rfl, hu2⟩; have HU2 := hide hu2; clear hu2)
      | (go_at_call 38; refine (HP.out _ (HH.out.more HU2.out)).mono ?_; rintro e w3 ⟨rfl, h3, -, -⟩))
    ((try simp only [Exit.inBlock, Exit.then]); refine bodyPost_ret (results_none rfl _ _ _) rfl ?_)
    exact ⟨rfl, h3⟩

set_option maxHeartbeats 4000000 in
set_option maxRecDepth 100000 in
theorem textByte_any (w0 : World) (tb : Nat) (out : List UInt8) (σ : List RowP) (b : UInt8) (w : World) (h : TS w0 tb out σ w) (hlen : out.length + 100 ≤ 140737488355328) :
    Calls Tryz.prog 62 #[.pointer (some ⟨tb, 0, none⟩), .int .u8 (b.toNat : Int)] w fun e w' => e = .returned (.tuple #[]) ∧ TS w0 tb (out ++ tbW b) σ w' := by
  have KL := fun w => oneByte_any b w
  have KT := fun w => twoDigits_any b w
  unfold tbW
  obtain ⟨n, hn⟩ : ∃ n, n = b.toNat := ⟨_, rfl⟩
  have hb : n < 256 := by rw [hn]; exact b.toNat_lt
  have q34 : b = 34 ↔ n = 34 := by rw [hn]; exact UInt8.toNat_inj.symm
  have q92 : b = 92 ↔ n = 92 := by rw [hn]; exact UInt8.toNat_inj.symm
  have q10 : b = 10 ↔ n = 10 := by rw [hn]; exact UInt8.toNat_inj.symm
  have q9 : b = 9 ↔ n = 9 := by rw [hn]; exact UInt8.toNat_inj.symm
  have q32 : b < 32 ↔ n < 32 := by rw [hn]; exact UInt8.lt_iff_toNat_lt
  have q126 : 126 < b ↔ 126 < n := by rw [hn]; exact UInt8.lt_iff_toNat_lt
  rw [← hn] at KL KT ⊢
  simp only [q34, q92, q10, q9, q32, q126]
  have HL := hide KL
  have HH := hide h
  clear q34 q92 q10 q9 q32 q126 KL h hn
  by_cases h1 : n = 34 ∨ n = 92
  · rw [if_pos h1]
    have KP := fun (W : World) (hW : TS w0 tb out σ W) => put_new w0 tb out σ [⟨#[92]⟩, ⟨#[b]⟩] 2 W hW (by simp [flat]; omega) (by simp)
    have e1 : flat [⟨#[92]⟩, ⟨#[b]⟩] = [92, b] := by simp [flat]
    rw [e1] at KP
    simp only [List.map_cons, List.map_nil, List.length_cons, List.length_nil, Nat.zero_add, Nat.reduceAdd] at KP
    have HP := hide KP
    clear KP e1 KT
    rcases h1 with h1 | h1
    · subst h1
      go_enter Tryz.func62, Tryz.ntmps62
      go_wp2_with (first
        | (go_at_call 60; refine (HL.out _).mono ?_; rintro e w2 ⟨rfl, hu2⟩; have HU2 := hide hu2; clear hu2)
        | (go_at_call 38; refine (HP.out _ (HH.out.more HU2.out)).mono ?_; rintro e w3 ⟨rfl, h3, -, -⟩))
      go_end0
      exact ⟨rfl, h3⟩
    · subst h1
      go_enter Tryz.func62, Tryz.ntmps62
      go_wp2_with (first
        | (go_at_call 60; refine (HL.out _).mono ?_; rintro e w2 ⟨rfl, hu2⟩; have HU2 := hide hu2; clear hu2)
        | (go_at_call 38; refine (HP.out _ (HH.out.more HU2.out)).mono ?_; rintro e w3 ⟨rfl, h3, -, -⟩))
      go_end0
      exact ⟨rfl, h3⟩
  rw [if_neg h1]
  have h11 : ¬ n = 34 := fun e => h1 (.inl e)
  have h12 : ¬ n = 92 := fun e => h1 (.inr e)
  clear h1
  by_cases h2 : n = 10
  · rw [if_pos h2]
    subst h2
    have KP := fun (W : World) (hW : TS w0 tb out σ W) => put_new w0 tb out σ [⟨#[92, 110]⟩] 1 W hW (by simp [flat]; omega) (by simp)
    have e1 : flat [⟨#[92, 110]⟩] = [92, 110] := by simp [flat]
    rw [e1] at KP
    simp only [List.map_cons, List.map_nil, List.length_cons, List.length_nil, Nat.zero_add] at KP
    have HP := hide KP
    clear KP e1 KT
    go_enter Tryz.func62, Tryz.ntmps62
    go_wp2_with (go_at_call 38; refine (HP.out _ HH.out).mono ?_; rintro e w3 ⟨rfl, h3, -, -⟩)
    go_end0
    exact ⟨rfl, h3⟩
  rw [if_neg h2]
  by_cases h3 : n = 9
  · rw [if_pos h3]
    subst h3
    have KP := fun (W : World) (hW : TS w0 tb out σ W) => put_new w0 tb out σ [⟨#[92, 116]⟩] 1 W hW (by simp [flat]; omega) (by simp)
    have e1 : flat [⟨#[92, 116]⟩] = [92, 116] := by simp [flat]
    rw [e1] at KP
    simp only [List.map_cons, List.map_nil, List.length_cons, List.length_nil, Nat.zero_add] at KP
    have HP := hide KP
    clear KP e1 KT
    go_enter Tryz.func62, Tryz.ntmps62
    go_wp2_with (go_at_call 38; refine (HP.out _ HH.out).mono ?_; rintro e w3 ⟨rfl, h3, -, -⟩)
    go_end0
    exact ⟨rfl, h3⟩
  rw [if_neg h3]
  by_cases h4 : n < 32 ∨ 126 < n
  · rw [if_pos h4]
    unfold two at *
    generalize hexd (n / 16) = x at *
    generalize hexd (n % 16) = y at *
    have KP := fun (W : World) (hW : TS w0 tb out σ W) => put_new w0 tb out σ [⟨#[92, 120]⟩, ⟨#[x, y]⟩, ⟨#[59]⟩] 3 W hW (by simp [flat]; omega) (by simp)
    have e1 : flat [⟨#[92, 120]⟩, ⟨#[x, y]⟩, ⟨#[59]⟩] = 92 :: 120 :: ([x, y] ++ [59]) := by simp [flat]
    rw [e1] at KP
    simp only [List.map_cons, List.map_nil, List.length_cons, List.length_nil, Nat.zero_add, Nat.reduceAdd] at KP
    have HP := hide KP
    have HT := hide KT
    clear KP e1 KT
    rcases Nat.lt_or_ge n 32 with h5 | h5
    · clear h4
      go_enter Tryz.func62, Tryz.ntmps62
      go_wp2_with (first
        | (go_at_call 74; refine (HT.out _).mono ?_; rintro e w2 ⟨rfl, hu2⟩; have HU2 := hide hu2; clear hu2)
        | (go_at_call 38; refine (HP.out _ (HH.out.more HU2.out)).mono ?_; rintro e w3 ⟨rfl, h3, -, -⟩))
      go_end0
      exact ⟨rfl, h3⟩
    · have h6 : 126 < n := by omega
      clear h4
      go_enter Tryz.func62, Tryz.ntmps62
      go_wp2_with (first
        | (go_at_call 74; refine (HT.out _).mono ?_; rintro e w2 ⟨rfl, hu2⟩; have HU2 := hide hu2; clear hu2)
        | (go_at_call 38; refine (HP.out _ (HH.out.more HU2.out)).mono ?_; rintro e w3 ⟨rfl, h3, -, -⟩))
      go_end0
      exact ⟨rfl, h3⟩
  rw [if_neg h4]
  have h5 : ¬ n < 32 := by omega
  have h6 : ¬ 126 < n := by omega
  have KP := fun (W : World) (hW : TS w0 tb out σ W) => put_new w0 tb out σ [⟨#[b]⟩] 1 W hW (by simp [flat]; omega) (by simp)
  have e1 : flat [⟨#[b]⟩] = [b] := by simp [flat]
  rw [e1] at KP
  simp only [List.map_cons, List.map_nil, List.length_cons, List.length_nil, Nat.zero_add] at KP
  have HP := hide KP
  clear KP e1 KT h4
  go_enter Tryz.func62, Tryz.ntmps62
  go_wp2_with (first
    | (go_at_call 60; refine (HL.out _).mono ?_; rintro e w2 ⟨rfl, hu2⟩; have HU2 := hide hu2; clear hu2)
    | (go_at_call 38; refine (HP.out _ (HH.out.more HU2.out)).mono ?_; rintro e w3 ⟨rfl, h3, -, -⟩))
  go_end0
  exact ⟨rfl, h3⟩

set_option maxHeartbeats 4000000 in
set_option maxRecDepth 100000 in
theorem text_any (w0 : World) (tb : Nat) (out : List UInt8) (σ : List RowP) (s : ByteArray) (sh : Bool) (w : World) (h : TS w0 tb out σ w) (hlen : out.length + 5 * s.size + 200 ≤ 140737488355328) :
    Calls Tryz.prog 42 #[.pointer (some ⟨tb, 0, none⟩), .string s, .int .i64 (howI sh)] w fun e w' => e = .returned (.tuple #[]) ∧ TS w0 tb (out ++ (if sh then s.data.toList else [34] ++ tsW s.data.toList ++ [34])) σ w' := by
  have hsz := bytes_len s
  cases sh
  · have KP := fun (o : List UInt8) (ho : o.length ≤ out.length + 5 * s.size + 50) (W : World) (hW : TS w0 tb o σ W) => put_new w0 tb o σ [⟨#[34]⟩] 1 W hW (by simp [flat]; omega) (by simp)
    have e1 : flat [⟨#[34]⟩] = [34] := by simp [flat]
    rw [e1] at KP
    simp only [List.map_cons, List.map_nil, List.length_cons, List.length_nil, Nat.zero_add] at KP
    have HP := hide KP
    have HH := hide h
    simp only [howI, Bool.false_eq_true, if_false]
    clear KP h e1
    have hsI : (s.size : Int) ≤ 9223372036854775807 := by omega
    go_enter Tryz.func42, Tryz.ntmps42
    go_wp2_with (go_at_call 38; refine (HP.out out (by omega) _ HH.out).mono ?_; rintro e w3 ⟨rfl, h3, -, -⟩; have H3 := hide h3; clear h3)
    go_loopw [18] (fun a18 wr => ∃ k : Nat, k ≤ s.size ∧ a18 = .int .i64 (k : Int) ∧ TS w0 tb (out ++ [34] ++ tsW (s.data.toList.take k)) σ wr) (fun a18 _ => s.size - (intOf a18).toNat)
    case atStart => exact ⟨0, Nat.zero_le _, rfl, by simpa [tsW] using H3.out⟩
    case round =>
      obtain ⟨k, hk, rfl, hT⟩ := hrel
      by_cases hlt : k < s.size
      · have hlt' : k < s.data.toList.length := by omega
        have e2 := tsW_take s.data.toList hlt'
        have e3 := tsW_le (s.data.toList.take k)
        rw [List.length_take] at e3
        have KB := textByte_any w0 tb _ σ (s.data.toList[k]) wr hT (by simp only [List.length_append, List.length_singleton]; omega)
        rw [List.append_assoc, ← e2] at KB
        have e4 : s[k] = s.data.toList[k] := by simp [ByteArray.getElem_eq_getElem_data]
        rw [← e4] at KB
        have HB := hide KB
        have hkI : (k : Int) < (s.size : Int) := by omega
        clear KB e2 e3 e4 hT
        go_wp2_with (go_at_call 62; refine HB.out.mono ?_; rintro e w4 ⟨rfl, h4⟩)
        refine ⟨⟨k + 1, by omega, by go_num, h4⟩, ?_⟩
        simp [intOf]
        omega
      · have hkK : k = s.size := by omega
        subst hkK
        have e5 : s.data.toList.take s.size = s.data.toList := List.take_of_length_le (by omega)
        rw [e5] at hT
        have hkI : ¬ ((s.size : Int) < (s.size : Int)) := by omega
        have hle := tsW_le s.data.toList
        have HT := hide hT
        clear hT e5
        go_wp2_with (go_at_call 38; refine (HP.out _ (by simp only [List.length_append, List.length_singleton]; omega) _ HT.out).mono ?_; rintro e w5 ⟨rfl, h5, -, -⟩)
        go_end0
        refine ⟨rfl, ?_⟩
        simpa using h5
  · have KP := fun (W : World) (hW : TS w0 tb out σ W) => put_new w0 tb out σ [s] 1 W hW (by simp [flat]; omega) (by simp)
    have e1 : flat [s] = s.data.toList := by simp [flat]
    rw [e1] at KP
    simp only [List.map_cons, List.map_nil, List.length_cons, List.length_nil, Nat.zero_add] at KP
    have HP := hide KP
    have HH := hide h
    simp only [howI, if_true]
    clear KP h e1
    go_enter Tryz.func42, Tryz.ntmps42
    go_wp2_with (go_at_call 38; refine (HP.out _ HH.out).mono ?_; rintro e w3 ⟨rfl, h3, -, -⟩)
    ((try simp only [Exit.inBlock, Exit.then]); refine bodyPost_ret (results_none rfl _ _ _) rfl ?_)
    exact ⟨rfl, h3⟩

/-- A datum is told, or its beginning, and the rest is left to rows that are less. -/
def Told (w0 : World) (tb : Nat) (out : List UInt8) (σ : List RowP) (sh : Bool) (h : Nat) (d : Tr h) (w' : World) : Prop :=
  ∃ out' σ', TS w0 tb out' σ' w' ∧ out' ++ pendA σ' = out ++ (wr h sh d ++ pendA σ) ∧ wtA σ' < wtA σ + bk h d

set_option maxHeartbeats 4000000 in
set_option maxRecDepth 100000 in
theorem list_any (w0 : World) (tb : Nat) (out : List UInt8) (σ : List RowP) (sh : Bool) (w : World) (h : Nat) (n : Int) (b : Bool) (L : List Nat) (t : ByteArray) (I R : List (Tr h)) (um ui ur : Value) (hS : TS w0 tb out σ w) (hlen : out.length + 200 ≤ 140737488355328) (hσ : σ.length ≤ 1000000000)
    (hM : Sl .u32 w0 um L.length (fun i => L.getD i 0)) (hI : RowD w0 (DatC w0 h) ui I) (hR : RowD w0 (DatC w0 h) ur R) :
    Calls Tryz.prog 43 #[.pointer (some ⟨tb, 0, none⟩), .agg #[.int .i64 6, .int .i64 n, .bool b, um, .string t, ui, ur], .int .i64 (howI sh)] w fun e w' => e = .returned (.tuple #[]) ∧ Told w0 tb out σ sh (h + 1) (6, n, b, L, t, I, R) w' := by
  obtain ⟨aom, capm, rfl, -⟩ := hM
  obtain ⟨aoi, capi, rfl⟩ := hI.shape
  have HS := hide hS
  by_cases hA : I = [] ∧ R ≠ []
  · obtain ⟨rfl, hR0⟩ := hA
    obtain ⟨r, R', rfl⟩ : ∃ r R', R = r :: R' := by
      cases R with
      | nil => exact absurd rfl hR0
      | cons r R' => exact ⟨r, R', rfl⟩
    obtain ⟨rb, ro, capr, rfl, c1, c2, -⟩ := hR.head
    have hone := hR.one
    have KB := fun (W : World) (hW : TS w0 tb out σ W) => begin_any w0 tb out σ ⟨h, sh, ⟨#[]⟩, [r], [], ⟨#[]⟩⟩ [] (.slice none 0 0) (.int .i64 (howI sh)) (.string ⟨#[]⟩) (.slice (some ⟨rb, ro, none⟩) 1 capr) (.slice none 0 0) (.string ⟨#[]⟩) W hW ⟨none, 0, rfl, .inl rfl⟩ (by simp [flat]; omega) (by simp) ⟨_, _, rfl, hone, RowD.nil' _ _⟩ hσ
    have HB := hide KB
    have hcp : ((1 : Nat) : Int) ≤ (capr : Int) := by omega
    generalize howI sh = H at *
    have hl : (0 : Int) < ((R'.length : Int) + 1) := by omega
    clear KB hI hR hone hS c2 hR0
    simp only [List.length_nil]
    go_enter Tryz.func43, Tryz.ntmps43
    go_wp2_with (go_at_call 44; refine (HB.out _ (HS.out.more (up_alloc w _))).mono ?_; rintro e w2 ⟨rfl, h2⟩)
    ((try simp only [Exit.inBlock, Exit.then]); refine bodyPost_ret (results_none rfl _ _ _) rfl ?_)
    refine ⟨rfl, _, _, h2, ?_, ?_⟩
    · rw [pendA_snoc]
      simp [flat, pendR, its, dotW, wr]
    · rw [wtA_snoc]
      simp [wtR, bk]
      omega
  · have hc : ¬ I.length = 0 ∨ (I.length = 0 ∧ R.length = 0) := by
      cases I with
      | nil => cases R with
        | nil => exact .inr ⟨rfl, rfl⟩
        | cons r R' => exact absurd ⟨rfl, by simp⟩ hA
      | cons i I' => exact .inl (by simp)
    have hw : wr (h + 1) sh (6, n, b, L, t, I, R) = [40] ++ its (wr h sh) [] I ++ dotW (wr h sh) R ++ [41] := by
      cases I with
      | nil => cases R with
        | nil => simp [wr, its, dotW]
        | cons r R' => exact absurd ⟨rfl, by simp⟩ hA
      | cons i I' => simp [wr]
    obtain ⟨aor, capr, rfl⟩ := hR.shape
    obtain ⟨W, hW⟩ : ∃ W, W = w.alloc (.cells #[.int .i64 6, .int .i64 n, .bool b, .slice aom L.length capm, .string t, .slice aoi I.length capi, .slice aor R.length capr] 32) := ⟨_, rfl⟩
    have SW : TS w0 tb out σ W := by rw [hW]; exact hS.more (up_alloc w _)
    have zW : W.heap.size = w.heap.size + 1 := by rw [hW, World.size_alloc]
    have KB := begin_any w0 tb out σ ⟨h, sh, ⟨#[]⟩, I, R, ⟨#[41]⟩⟩ [⟨#[40]⟩] (.slice (some ⟨W.heap.size, 0, none⟩) 1 1) (.int .i64 (howI sh)) (.string ⟨#[]⟩) (.slice aoi I.length capi) (.slice aor R.length capr) (.string ⟨#[41]⟩) (W.alloc (.cells #[.string ⟨#[40]⟩] 9)) (SW.more (up_alloc W _)) (pcs_new W [⟨#[40]⟩] 1) (by simp [flat]; omega) (by simp) ⟨_, _, rfl, hI, hR⟩ hσ
    rw [zW, hW] at KB
    have HB := hide KB
    have HW := hide hw
    generalize howI sh = H at *
    obtain ⟨li, hli⟩ : ∃ li, li = I.length := ⟨_, rfl⟩
    obtain ⟨lr, hlr⟩ : ∃ lr, lr = R.length := ⟨_, rfl⟩
    rw [← hli, ← hlr] at HB hc ⊢
    clear HS
    have HC := hide (And.intro hli hlr)
    clear KB hI hR hS hw hA hli hlr SW zW hW
    have HE : ∀ w2, TS w0 tb (out ++ flat [⟨#[40]⟩]) (σ ++ [⟨h, sh, ⟨#[]⟩, I, R, ⟨#[41]⟩⟩]) w2 → Told w0 tb out σ sh (h + 1) (6, n, b, L, t, I, R) w2 := fun w2 h2 => by
      refine ⟨_, _, h2, ?_, ?_⟩
      · rw [pendA_snoc, HW.out]
        simp [flat, pendR]
      · rw [wtA_snoc]
        simp [wtR, bk]
        omega
    have HQ := hide HE
    clear HE HW
    rcases hc with hc | ⟨hc, hc2⟩
    · go_enter Tryz.func43, Tryz.ntmps43
      go_wp2_with (go_at_call 44; refine HB.out.mono ?_; rintro e w2 ⟨rfl, h2⟩)
      go_end0
      exact ⟨rfl, HQ.out _ h2⟩
    · subst hc hc2
      go_enter Tryz.func43, Tryz.ntmps43
      go_wp2_with (go_at_call 44; refine HB.out.mono ?_; rintro e w2 ⟨rfl, h2⟩)
      go_end0
      exact ⟨rfl, HQ.out _ h2⟩

end Go.Proofs.YtbijdflgjelpnaaGreatDoor
