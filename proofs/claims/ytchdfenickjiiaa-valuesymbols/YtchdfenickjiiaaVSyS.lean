/-
  What is proved here: what stands between the calls of ValueSymbols; Intern, Text, Keep and Name keep it.
-/
import Derived.Test.YtchdfenickjiiaaVSymW
namespace Go.Proofs.Ytchdfenickjiiaa
open Go Go.RowKit

/-- A store whose symbols are what they are called; a list vl of k words lw; the first k2 of lw are the symbols of the names. -/
structure SyI (w0 : World) (sb hb : Nat) (nms : Nat → ByteArray) (k k2 c : Nat) (lw : Nat → Nat) (vl : Value) (X : Nat → Prop) (vS : Value) (mb m : Nat) (sw : Nat → Nat) (nm : Nat → ByteArray) (tm : Int) (n : Nat) (f : Nat → Nat) (st : Nat → Bool) (W : World) : Prop where
  I : SymIn W sb hb X vS mb m sw nm 32768 tm n f st
  sy : ∀ j, j < m → SymW n f st (sw j) (nm j)
  own : Own .u64 22 W w0.heap.size vl k lw
  lX : ∀ g, vl.ownBlock = some g → ¬ storeX sb X vS mb g
  idx : ∀ i, i < k2 → ∃ j, j < m ∧ lw i = sw j ∧ nm j = nms i
  ms : m ≤ k2
  nc : n ≤ c
  t0 : 0 ≤ tm ∧ tm ≤ (c : Int)
  lo : ∀ g, storeX sb X vS mb g → w0.heap.size ≤ g
  U : Below w0.heap.size w0 W
def SyS (w0 : World) (sb hb : Nat) (nms : Nat → ByteArray) (k k2 c : Nat) (lw : Nat → Nat) (vl : Value) (W : World) : Prop :=
  ∃ X vS mb m sw nm tm n f st, SyI w0 sb hb nms k k2 c lw vl X vS mb m sw nm tm n f st W

theorem storeX_lt {w : World} {sb hb : Nat} {X : Nat → Prop} {vS : Value} {mb m : Nat} {sw : Nat → Nat} {nm : Nat → ByteArray} {sz : Nat} {tm : Int} {n : Nat} {f : Nat → Nat} {st : Nat → Bool} (h : SymIn w sb hb X vS mb m sw nm sz tm n f st) {k : Nat} (hk : storeX sb X vS mb k) : k < w.heap.size := by
  rcases hk with e | e | e | e
  · exact h.S.H.lt e
  · rw [e]; exact (Array.getElem?_eq_some_iff.1 h.S.blk).1
  · rw [e]; exact h.S.ml
  · exact h.words.block_lt e

/-- What turns no block that was there. -/
theorem SyS.fr {w0 W W' : World} {sb hb : Nat} {nms : Nat → ByteArray} {k k2 c : Nat} {lw : Nat → Nat} {vl : Value} (h : SyS w0 sb hb nms k k2 c lw vl W) (F : Fr (fun _ => False) W W') : SyS w0 sb hb nms k k2 c lw vl W' := by
  obtain ⟨X, vS, mb, m, sw, nm, tm, n, f, st, h⟩ := h
  exact ⟨X, vS, mb, m, sw, nm, tm, n, f, st, h.I.fr F (fun _ _ e => e), h.sy, h.own.fr F (fun _ _ e => e), h.lX, h.idx, h.ms, h.nc, h.t0, h.lo, h.U.trans (F.below h.U.size (fun _ _ e => e))⟩
theorem SyS.more {w0 W : World} {sb hb : Nat} {nms : Nat → ByteArray} {k k2 c c2 : Nat} {lw : Nat → Nat} {vl : Value} (h : SyS w0 sb hb nms k k2 c lw vl W) (hc : c ≤ c2) : SyS w0 sb hb nms k k2 c2 lw vl W := by
  obtain ⟨X, vS, mb, m, sw, nm, tm, n, f, st, h⟩ := h
  exact ⟨X, vS, mb, m, sw, nm, tm, n, f, st, h.I, h.sy, h.own, h.lX, h.idx, h.ms, Nat.le_trans h.nc hc, by have := h.t0; omega, h.lo, h.U⟩

theorem SyI.names {w0 : World} {sb hb : Nat} {nms : Nat → ByteArray} {k k2 c : Nat} {lw : Nat → Nat} {vl : Value} {X : Nat → Prop} {vS : Value} {mb m : Nat} {sw : Nat → Nat} {nm : Nat → ByteArray} {tm : Int} {n : Nat} {f : Nat → Nat} {st : Nat → Bool} {W : World} (h : SyI w0 sb hb nms k k2 c lw vl X vS mb m sw nm tm n f st W) {i j : Nat} (hi : i < m) (hj : j < m) (e : nm i = nm j) : i = j := by
  obtain ⟨D, _, hD⟩ := h.I.map
  have h1 := hD.at' i hi
  have h2 := hD.at' j hj
  rw [e] at h1
  have := h1.symm.trans h2
  simp at this
  omega

/-- Words and names part alike. -/
theorem SyS.same {w0 W : World} {sb hb : Nat} {nms : Nat → ByteArray} {k k2 c : Nat} {lw : Nat → Nat} {vl : Value} (h : SyS w0 sb hb nms k k2 c lw vl W) {i j : Nat} (hi : i < k2) (hj : j < k2) : lw i = lw j ↔ nms i = nms j := by
  obtain ⟨X, vS, mb, m, sw, nm, tm, n, f, st, h⟩ := h
  obtain ⟨a, ha, e1, e2⟩ := h.idx i hi
  obtain ⟨b, hb', e3, e4⟩ := h.idx j hj
  constructor
  · intro e
    have s1 := h.sy a ha
    have s2 := h.sy b hb'
    rw [← e1, e, e3] at s1
    rw [← e2, ← e4]
    exact s1.inj s2
  · intro e
    have := h.names ha hb' (by rw [e2, e4, e])
    rw [e1, e3, this]

theorem SyS.lt {w0 W : World} {sb hb : Nat} {nms : Nat → ByteArray} {k k2 c : Nat} {lw : Nat → Nat} {vl : Value} (h : SyS w0 sb hb nms k k2 c lw vl W) {i : Nat} (hi : i < k2) : lw i < 18446744073709551616 := by
  obtain ⟨X, vS, mb, m, sw, nm, tm, n, f, st, h⟩ := h
  obtain ⟨a, ha, e1, _⟩ := h.idx i hi
  have hz := h.I.S.H.good.2.2
  rw [e1]
  exact ((h.sy a ha).lt (by omega)).1

theorem sys_name {w0 W : World} {sb hb : Nat} {nms : Nat → ByteArray} {k k2 c : Nat} {lw : Nat → Nat} {vl : Value} (h : SyS w0 sb hb nms k k2 c lw vl W) {i : Nat} (hi : i < k2) :
    Calls Try.prog 19 #[.pointer (some ⟨sb, 0, none⟩), .int .u64 (lw i : Int)] W fun e w' => e = .returned (.tuple #[.string (nms i), .bool true]) ∧ Fr (fun _ => False) W w' := by
  obtain ⟨X, vS, mb, m, sw, nm, tm, n, f, st, h⟩ := h
  obtain ⟨a, ha, e1, e2⟩ := h.idx i hi
  have := name_sym W sb hb X 32768 tm n f st (sw a) (nm a) h.I.S.H h.I.S.cells.1 (h.sy a ha)
  rw [e2, ← e1] at this
  exact this

theorem sys_intern {w0 W : World} {sb hb : Nat} {nms : Nat → ByteArray} {k c : Nat} {lw : Nat → Nat} {vl : Value} (h : SyS w0 sb hb nms k k c lw vl W) (hs : (nms k).size ≤ 300) (hc : c + 42 ≤ 32768) :
    Calls Try.prog 16 #[.pointer (some ⟨sb, 0, none⟩), .string (nms k)] W fun e w' => ∃ x : Nat, e = .returned (.tuple #[.int .u64 (x : Int), .bool true]) ∧ SyS w0 sb hb nms k (k + 1) (c + 42) (upd lw k x) vl w' := by
  obtain ⟨X, vS, mb, m, sw, nm, tm, n, f, st, h⟩ := h
  have hlw : ∀ x, Own .u64 22 W w0.heap.size vl k (upd lw k x) := fun x => h.own.congr (fun i hi => (upd_other (by omega)).symm)
  by_cases hex : ∃ j, j < m ∧ nm j = nms k
  · obtain ⟨j, hj, ej⟩ := hex
    have K := intern_old W sb hb X vS mb m sw nm 32768 tm n f st h.I j hj (by rw [ej]; omega)
    rw [ej] at K
    refine K.mono fun e w' he => ?_
    obtain ⟨e1, q, rfl⟩ := he
    refine ⟨sw j, e1, SyS.fr (W := W) ⟨X, vS, mb, m, sw, nm, tm, n, f, st, h.I, h.sy, hlw _, h.lX, fun i hi => ?_, by have := h.ms; omega, by have := h.nc; omega, by have := h.t0; omega, h.lo, h.U⟩ ((Fr.refl _ W).drewN q)⟩
    rcases Nat.lt_or_ge i k with e | e
    · rw [upd_other (by omega)]; exact h.idx i e
    · have e2 : i = k := by omega
      rw [e2, upd_same]
      exact ⟨j, hj, rfl, ej⟩
  · have hno : ∀ i, i < m → nm i ≠ nms k := fun i hi e => hex ⟨i, hi, e⟩
    have hsn : symN n (nms k) = n + 1 + 0 + (1 + ((nms k).size + 7) / 8) := rfl
    have hnc := h.nc
    refine (intern_new W sb hb X vS mb m sw nm 32768 tm n f st h.I (nms k) hno (by omega) (by omega)).mono fun e w' he => ?_
    obtain ⟨e1, X2, v2, I2, F2, G2⟩ := he
    have hvl : ∀ g, vl.ownBlock = some g → g < W.heap.size := fun g hg => h.own.block_lt hg
    refine ⟨4 * symN n (nms k), e1, X2, v2, mb, m + 1, _, _, tm, _, _, _, I2, fun j hj => ?_, (hlw _).fr F2 h.lX, fun g hg e => ?_, fun i hi => ?_, by have := h.ms; omega, by omega, by have := h.t0; omega, fun g hg => ?_, h.U.trans (F2.below h.U.size (fun j hj e => by have := h.lo j e; omega))⟩
    · rcases Nat.lt_or_ge j m with e | e
      · rw [upd_other (by omega), show updB nm m (nms k) j = nm j by unfold updB; rw [if_neg (by omega)]]
        exact (h.sy j e).old symF_old (by omega)
      · have e2 : j = m := by omega
        rw [e2, upd_same, show updB nm m (nms k) m = nms k by unfold updB; rw [if_pos rfl]]
        exact symF_sym (by omega)
    · rcases G2 g e with e | e
      · exact h.lX g hg e
      · have := hvl g hg; omega
    · rcases Nat.lt_or_ge i k with e | e
      · obtain ⟨j, h1, h2, h3⟩ := h.idx i e
        refine ⟨j, by omega, ?_, ?_⟩
        · rw [upd_other (by omega), upd_other (by omega)]; exact h2
        · rw [show updB nm m (nms k) j = nm j by unfold updB; rw [if_neg (by omega)]]; exact h3
      · have e2 : i = k := by omega
        rw [e2]
        exact ⟨m, by omega, by rw [upd_same, upd_same], by unfold updB; rw [if_pos rfl]⟩
    · rcases G2 g hg with e | e
      · exact h.lo g e
      · have := h.U.size; omega

/-- The bytes of "between". -/
def betw : Nat → Nat := fun i => [98, 101, 116, 119, 101, 101, 110].getD i 0
theorem sys_text {w0 W : World} {sb hb : Nat} {nms : Nat → ByteArray} {k k2 c : Nat} {lw : Nat → Nat} {vl : Value} (h : SyS w0 sb hb nms k k2 c lw vl W) (hc : c + 3 ≤ 32768) :
    Calls Try.prog 17 #[.pointer (some ⟨sb, 0, none⟩), .slice (some ⟨W.heap.size, 0, none⟩) 7 7] (W.alloc (.cells #[.int .u8 98, .int .u8 101, .int .u8 116, .int .u8 119, .int .u8 101, .int .u8 101, .int .u8 110] 5 (7, 8))) fun e w' => ∃ x : Nat, e = .returned (.tuple #[.int .u64 (x : Int), .bool true]) ∧ SyS w0 sb hb nms k k2 (c + 3) lw vl w' := by
  obtain ⟨X, vS, mb, m, sw, nm, tm, n, f, st, h⟩ := h
  have F1 : Fr (fun _ => False) W (W.alloc (.cells #[.int .u8 98, .int .u8 101, .int .u8 116, .int .u8 119, .int .u8 101, .int .u8 101, .int .u8 110] 5 (7, 8))) := (Fr.refl _ W).alloc _
  have b1 := heap_alloc_new W (.cells #[.int .u8 98, .int .u8 101, .int .u8 116, .int .u8 119, .int .u8 101, .int .u8 101, .int .u8 110] 5 (7, 8))
  generalize W.alloc (.cells #[.int .u8 98, .int .u8 101, .int .u8 116, .int .u8 119, .int .u8 101, .int .u8 101, .int .u8 110] 5 (7, 8)) = W1 at *
  have I1 := h.I.fr F1 (fun _ _ e => e)
  have hnc := h.nc
  refine (text_yes W1 sb hb X 32768 tm n f st _ W.heap.size 0 7 7 betw I1.S.H I1.S.cells.1 I1.S.sX (.inr ⟨rfl, by decide, by decide⟩) (fun i hi => ?_) (fun i hi => ?_) (fun e => by have := h.I.S.H.lt e; omega) (by omega)).mono fun e w' he => ?_
  · match i, hi with
    | 0, _ => decide
    | 1, _ => decide
    | 2, _ => decide
    | 3, _ => decide
    | 4, _ => decide
    | 5, _ => decide
    | 6, _ => decide
  · match i, hi with
    | 0, _ => exact cell_of_row W1 W.heap.size 0 _ _ _ b1
    | 1, _ => exact cell_of_row W1 W.heap.size 1 _ _ _ b1
    | 2, _ => exact cell_of_row W1 W.heap.size 2 _ _ _ b1
    | 3, _ => exact cell_of_row W1 W.heap.size 3 _ _ _ b1
    | 4, _ => exact cell_of_row W1 W.heap.size 4 _ _ _ b1
    | 5, _ => exact cell_of_row W1 W.heap.size 5 _ _ _ b1
    | 6, _ => exact cell_of_row W1 W.heap.size 6 _ _ _ b1
  · obtain ⟨e1, X2, H2, G2, F2⟩ := he
    have s1 := F1.size
    have FF : Fr X W w' := Fr.trans (F1.mono (fun _ _ e => e.elim)) F2 (fun _ _ e => e)
    have GG : Grows W.heap.size X X2 := fun k hk => by
      rcases G2 k hk with e | e
      · exact .inl e
      · exact .inr (by omega)
    refine ⟨4 * n, e1, X2, vS, mb, m, sw, nm, tm, _, _, _, h.I.turn H2 GG FF (by omega), fun j hj => (h.sy j hj).old (fun i hi => ⟨?_, fun e => by simp [also, e]⟩) (by omega), h.own.fr FF (fun g hg e => h.lX g hg (.inl e)), fun g hg e => ?_, h.idx, h.ms, by omega, by have := h.t0; omega, fun g hg => ?_, h.U.trans (FF.below h.U.size (fun j hj e => by have := h.lo j (.inl e); omega))⟩
    · unfold tagF
      rw [if_neg (by omega), laid_old hi]
    · rcases e with e | e
      · rcases GG g e with e | e
        · exact h.lX g hg (.inl e)
        · have := h.own.block_lt hg; omega
      · exact h.lX g hg (.inr e)
    · rcases hg with e | e
      · rcases GG g e with e | e
        · exact h.lo g (.inl e)
        · have := h.U.size; omega
      · exact h.lo g (.inr e)

theorem sys_keep {w0 W : World} {sb hb : Nat} {nms : Nat → ByteArray} {k c : Nat} {lw : Nat → Nat} {vl : Value} (h : SyS w0 sb hb nms k k c lw vl W) (hk0 : 0 < k) (hk : k ≤ 100) (hc : c ≤ 100000) :
    Calls Try.prog 18 #[.pointer (some ⟨sb, 0, none⟩), vl] W fun e w' => ∃ v lw', e = .returned v ∧ SyS w0 sb hb nms k k (c + 1) lw' v w' := by
  have hlt := fun i hi => h.lt (i := i) hi
  obtain ⟨X, vS, mb, m, sw, nm, tm, n, f, st, h⟩ := h
  obtain ⟨gl, cap, rfl, _, hcap, _⟩ := h.own.rd hk0
  have hrow : RowAt .u64 22 W gl cap k lw := by
    rcases h.own with ⟨e, _⟩ | ⟨g', c', e, _, _, row⟩
    · cases e
    · cases e; exact row
  obtain ⟨j0, hj0, _⟩ := h.idx 0 hk0
  have hz := h.I.S.H.good
  have hms := h.ms
  have ht := h.t0
  have hswl : ∀ i, i < m → sw i < 18446744073709551616 := fun i hi => ((h.sy i hi).lt (by omega)).1
  obtain ⟨c1, c2, c3⟩ := coll_gr (R := fun _ => True) hz.1 hz.2.1 (by omega) (fun _ _ _ _ _ _ _ => trivial) (catF k lw sw) (k + m) (fun _ _ _ => trivial)
  refine (keep_any W sb hb X vS mb m sw nm 32768 tm n f st h.I ht.1 (by omega) gl k cap lw hrow (fun e => h.lX gl rfl (.inl e)) hlt hswl hk0 (by omega) (by omega) (by omega) hcap).mono fun e w' he => ?_
  generalize collS n f st (catF k lw sw) (k + m) = S at *
  obtain ⟨v, X2, e1, e2, e3, e4⟩ := he
  have hsy : ∀ j, j < m → SymW S.n S.f S.st (mvF st S (sw j)) (nm j) := fun j hj => (h.sy j hj).coll c1 c2 (by have := (c3 (k + j) (by omega)).1; rwa [catF_right] at this)
  have hSn : S.n ≤ n := by
    rw [c1.sum, Nat.add_comm]
    exact sumL_le hz.1 (fun p hp => (c1.went p (by simpa using hp)).1) n n hz.1.pos (fun p _ hp => (hz.1.inn p (c1.went p (by simpa using hp)).1).2)
  have hmn : m ≤ S.n := pigeon S.n m (fun j => mvF st S (sw j) / 4) (fun j hj => ((hsy j hj).lt (by omega)).2) (fun i j hi hj e => by
    refine h.names hi hj ?_
    have s1 := hsy i hi
    have s2 := hsy j hj
    have e5 : mvF st S (sw i) = mvF st S (sw j) := by
      obtain ⟨p, q, k1, _⟩ := s1
      obtain ⟨p', q', k2, _⟩ := s2
      have e : mvF st S (sw i) / 4 = mvF st S (sw j) / 4 := e
      omega
    rw [e5] at s1
    exact s1.inj s2)
  have hXl : ∀ g, storeX sb X2 vS mb g → storeX sb X vS mb g ∨ W.heap.size ≤ g := fun g hg => by
    rcases hg with e | e
    · rcases e4.G g e with e | e
      · exact .inl (.inl e)
      · exact .inr e
    · exact .inl (.inr e)
  refine ⟨v, fun i => mvF st S (lw i), e1, X2, vS, mb, m, fun j => mvF st S (sw j), nm, tm + 1, S.n, S.f, S.st, ⟨e4.S, e4.words, e4.vX, e4.map, hmn⟩, hsy, e2.mono h.U.size, fun g hg e => ?_, fun i hi => ?_, h.ms, by have := h.nc; omega, by omega, fun g hg => ?_, h.U.trans (e4.F.below h.U.size (fun j hj e => by have := h.lo j e; omega))⟩
  · rcases e with e | e
    · exact e3 g hg e
    · have h1 := e2.base_le hg
      have h2 := storeX_lt h.I (k := g) (.inr e)
      omega
  · obtain ⟨j, k1, k2, k3⟩ := h.idx i hi
    exact ⟨j, k1, by show mvF st S (lw i) = mvF st S (sw j); rw [k2], k3⟩
  · rcases hXl g hg with e | e
    · exact h.lo g e
    · have := h.U.size; omega

end Go.Proofs.Ytchdfenickjiiaa
