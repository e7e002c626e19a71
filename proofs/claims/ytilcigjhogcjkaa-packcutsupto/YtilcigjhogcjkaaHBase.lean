/-
  What is proved here: what a call may turn, by the blocks that it may turn; a half of a heap in memory; no walk.
-/
import Derived.Test.YtilcigjhogcjkaaHMath
import Derived.Deep.AppendLies
import Derived.Deep.QuietTactic
namespace Go.Proofs.Ytilcigjhogcjkaa
open Go Go.RowKit

/-- Nothing but blocks of S has turned; blocks may have come. -/
structure Fr (S : Nat → Prop) (w w' : World) : Prop where
  os : w'.os = w.os
  tape : w'.tape = w.tape
  output : w'.output = w.output
  size : w.heap.size ≤ w'.heap.size
  block : ∀ k, k < w.heap.size → ¬ S k → w'.heap[k]? = w.heap[k]?

theorem Fr.refl (S : Nat → Prop) (w : World) : Fr S w w := ⟨rfl, rfl, rfl, Nat.le_refl _, fun _ _ _ => rfl⟩
theorem Fr.trans {S S' : Nat → Prop} {a b c : World} (h : Fr S a b) (k : Fr S' b c) (hs : ∀ x, x < a.heap.size → S' x → S x) : Fr S a c :=
  ⟨k.os.trans h.os, k.tape.trans h.tape, k.output.trans h.output, Nat.le_trans h.size k.size, fun i hi hn => (k.block i (Nat.lt_of_lt_of_le hi h.size) (fun e => hn (hs i hi e))).trans (h.block i hi hn)⟩
theorem Fr.mono {S S' : Nat → Prop} {a b : World} (h : Fr S a b) (hs : ∀ x, x < a.heap.size → S x → S' x) : Fr S' a b :=
  ⟨h.os, h.tape, h.output, h.size, fun i hi hn => h.block i hi (fun e => hn (hs i hi e))⟩
theorem Fr.drew {S : Nat → Prop} {a w : World} (h : Fr S a w) : Fr S a w.drew := ⟨h.os, h.tape, h.output, h.size, h.block⟩
theorem Fr.alloc {S : Nat → Prop} {a w : World} (h : Fr S a w) (o : Obj) : Fr S a (w.alloc o) :=
  ⟨h.os, h.tape, h.output, by have := h.size; simp; omega, fun k hk hn => (heap_alloc_old w o (r := k) (by have := h.size; omega)).trans (h.block k hk hn)⟩
theorem Fr.setCell {S : Nat → Prop} {a w : World} (h : Fr S a w) {g : Nat} (hg : g < a.heap.size → S g) (i : Nat) (u : Value) : Fr S a (w.setCell ⟨g, i, none⟩ u) :=
  ⟨h.os, h.tape, h.output, by simpa [World.setCell] using h.size, fun k hk hn => (heap_setCell_other _ _ _ _ (fun e => hn (by rw [e]; rw [e] at hk; exact hg hk))).trans (h.block k hk hn)⟩
theorem Fr.grow {S : Nat → Prop} {a w w' : World} (h : Fr S a w) {r : Option Nat} (g : w.grownBy w' r) (hr : ∀ k, k < a.heap.size → r = some k → S k) : Fr S a w' :=
  ⟨g.os.trans h.os, g.tape.trans h.tape, g.output.trans h.output, Nat.le_trans h.size g.size, fun k hk hn => (g.block k (Nat.lt_of_lt_of_le hk h.size) (fun e => hn (hr k hk e.symm))).trans (h.block k hk hn)⟩
theorem Fr.below {S : Nat → Prop} {B : Nat} {a w : World} (h : Fr S a w) (hB : B ≤ a.heap.size) (hs : ∀ k, k < B → ¬ S k) : Below B a w :=
  ⟨h.os, h.tape, h.output, h.size, fun k hk => h.block k (by omega) (hs k hk)⟩
theorem Fr.cell {S : Nat → Prop} {w w' : World} (h : Fr S w w') {b o : Nat} (hb : b < w.heap.size) (hn : ¬ S b) : w'.cell? ⟨b, o, none⟩ = w.cell? ⟨b, o, none⟩ := World.cell?_of_block (w := w) (h.block b hb hn)

theorem drewN_heap {w w1 : World} {q : Nat} (h : w1 = w.drewN q) : w1.heap = w.heap := by
  subst h
  simp
theorem drewN_cell {w w1 : World} {q : Nat} (h : w1 = w.drewN q) (a : Addr) : w1.cell? a = w.cell? a :=
  World.cell?_of_block (by rw [drewN_heap h])
theorem Fr.drewN {S : Nat → Prop} {a w : World} (h : Fr S a w) (q : Nat) : Fr S a (w.drewN q) := ⟨h.os, h.tape, h.output, h.size, h.block⟩

/-- The block of a value that owns a row lies in memory. -/
theorem Own.block_lt {k : IntKind} {E : TypeId} {w : World} {base : Nat} {v : Value} {n : Nat} {f : Nat → Nat} (h : Own k E w base v n f) {g : Nat} (hg : v.ownBlock = some g) : g < w.heap.size := by
  rcases h with ⟨rfl, rfl⟩ | ⟨b, cap, rfl, h1, h2, h3⟩
  · cases hg
  · have e : b = g := by simpa [Value.ownBlock] using hg
    rw [← e]; exact h3.lt
theorem Own.keep {k : IntKind} {E : TypeId} {w w' : World} {base : Nat} {v : Value} {n : Nat} {f : Nat → Nat} (h : Own k E w base v n f) (hb : ∀ g, v.ownBlock = some g → w'.heap[g]? = w.heap[g]?) : Own k E w' base v n f := by
  rcases h with ⟨rfl, rfl⟩ | ⟨g, cap, rfl, h1, h2, h3⟩
  · exact .inl ⟨rfl, rfl⟩
  · exact .inr ⟨g, cap, rfl, h1, h2, h3.block (hb g rfl)⟩
theorem Own.fr {k : IntKind} {E : TypeId} {S : Nat → Prop} {w w' : World} {base : Nat} {v : Value} {n : Nat} {f : Nat → Nat} (h : Own k E w base v n f) (hf : Fr S w w') (hs : ∀ g, v.ownBlock = some g → ¬ S g) : Own k E w' base v n f :=
  h.keep fun g hg => hf.block g (h.block_lt hg) (hs g hg)
theorem Own.congr {k : IntKind} {E : TypeId} {w : World} {base : Nat} {v : Value} {n : Nat} {f f' : Nat → Nat} (h : Own k E w base v n f) (hf : ∀ i, i < n → f i = f' i) : Own k E w base v n f' := by
  rcases h with ⟨rfl, rfl⟩ | ⟨g, cap, rfl, h1, h2, h3⟩
  · exact .inl ⟨rfl, rfl⟩
  · exact .inr ⟨g, cap, rfl, h1, h2, h3.congr hf⟩
/-- A row with one number more, as append leaves it. -/
theorem Own.snoc {k : IntKind} {E : TypeId} {w : World} {base : Nat} {v : Value} {n x : Nat} {f : Nat → Nat} (h : w.ownsRow base E 1 v (n + 1) (cellsOf k f n ++ [.int k x])) : Own k E w base v (n + 1) (upd f n x) :=
  Own.of_row h fun i hi => by
    by_cases e : i = n
    · subst e
      rw [upd_same, List.getElem?_append_right (by rw [cellsOf_length]; exact Nat.le_refl _), cellsOf_length]
      simp
    · rw [upd_other e, List.getElem?_append_left (by rw [cellsOf_length]; omega), cellsOf_get _ _ _ _ (by omega)]
/-- A row with m numbers more. -/
theorem Own.cat {k : IntKind} {E : TypeId} {w : World} {base : Nat} {v : Value} {n m : Nat} {f g : Nat → Nat} (h : w.ownsRow base E 1 v (n + m) (cellsOf k f n ++ cellsOf k g m)) : Own k E w base v (n + m) (fun i => if i < n then f i else g (i - n)) :=
  Own.of_row h fun i hi => by
    by_cases e : i < n
    · rw [if_pos e, List.getElem?_append_left (by rw [cellsOf_length]; omega), cellsOf_get _ _ _ _ (by omega)]
    · rw [if_neg e, List.getElem?_append_right (by rw [cellsOf_length]; omega), cellsOf_length, cellsOf_get _ _ _ _ (by omega)]

/-- A half of a heap, in the cells o and o + 1 of the block hb, whose cells are cur: its words (n of them, f), its marks (m words, s). -/
structure HalfAt (E T : TypeId) (w : World) (hb : Nat) (cur : Array Value) (o : Nat) (v u : Value) (n : Nat) (f : Nat → Nat) (m : Nat) (s : Nat → Nat) : Prop where
  blk : w.heap[hb]? = some (.cells cur T (0, 0))
  cv : cur[o]? = some v
  cu : cur[o + 1]? = some u
  ov : Own .u64 E w 0 v n f
  ou : Own .u64 E w 0 u m s
  nv : v.ownBlock ≠ some hb
  nu : u.ownBlock ≠ some hb
  nn : ∀ g, v.ownBlock = some g → u.ownBlock ≠ some g

/-- The blocks of a half. -/
def foot (hb : Nat) (v u : Value) (k : Nat) : Prop := k = hb ∨ v.ownBlock = some k ∨ u.ownBlock = some k

theorem HalfAt.lt {E T : TypeId} {w : World} {hb : Nat} {cur : Array Value} {o : Nat} {v u : Value} {n : Nat} {f : Nat → Nat} {m : Nat} {s : Nat → Nat} (h : HalfAt E T w hb cur o v u n f m s) : hb < w.heap.size :=
  (Array.getElem?_eq_some_iff.1 h.blk).1
theorem HalfAt.cellv {E T : TypeId} {w : World} {hb : Nat} {cur : Array Value} {o : Nat} {v u : Value} {n : Nat} {f : Nat → Nat} {m : Nat} {s : Nat → Nat} (h : HalfAt E T w hb cur o v u n f m s) : w.cell? ⟨hb, o, none⟩ = some v := by
  rw [cell_of_row w hb o cur T (0, 0) h.blk]; exact h.cv
theorem HalfAt.cellu {E T : TypeId} {w : World} {hb : Nat} {cur : Array Value} {o : Nat} {v u : Value} {n : Nat} {f : Nat → Nat} {m : Nat} {s : Nat → Nat} (h : HalfAt E T w hb cur o v u n f m s) : w.cell? ⟨hb, o + 1, none⟩ = some u := by
  rw [cell_of_row w hb (o + 1) cur T (0, 0) h.blk]; exact h.cu
theorem HalfAt.free {E T : TypeId} {w : World} {hb : Nat} {cur : Array Value} {o : Nat} {v u : Value} {n : Nat} {f : Nat → Nat} {m : Nat} {s : Nat → Nat} (h : HalfAt E T w hb cur o v u n f m s) (i : Nat) : w.frozen? ⟨hb, i, none⟩ = false :=
  frozen_of_row w hb i cur T h.blk
/-- What turns no block of a half keeps it. -/
theorem HalfAt.fr {E T : TypeId} {S : Nat → Prop} {w w' : World} {hb : Nat} {cur : Array Value} {o : Nat} {v u : Value} {n : Nat} {f : Nat → Nat} {m : Nat} {s : Nat → Nat} (h : HalfAt E T w hb cur o v u n f m s) (hf : Fr S w w') (hs : ∀ k, foot hb v u k → ¬ S k) : HalfAt E T w' hb cur o v u n f m s :=
  ⟨(hf.block hb h.lt (hs hb (.inl rfl))).trans h.blk, h.cv, h.cu, h.ov.fr hf fun g hg => hs g (.inr (.inl hg)), h.ou.fr hf fun g hg => hs g (.inr (.inr hg)), h.nv, h.nu, h.nn⟩
theorem HalfAt.alloc {E T : TypeId} {w : World} {hb : Nat} {cur : Array Value} {o : Nat} {v u : Value} {n : Nat} {f : Nat → Nat} {m : Nat} {s : Nat → Nat} (h : HalfAt E T w hb cur o v u n f m s) (ob : Obj) : HalfAt E T (w.alloc ob) hb cur o v u n f m s :=
  h.fr (S := fun _ => False) ((Fr.refl _ _).alloc ob) (fun _ _ e => e)
theorem HalfAt.drew {E T : TypeId} {w : World} {hb : Nat} {cur : Array Value} {o : Nat} {v u : Value} {n : Nat} {f : Nat → Nat} {m : Nat} {s : Nat → Nat} (h : HalfAt E T w hb cur o v u n f m s) : HalfAt E T w.drew hb cur o v u n f m s :=
  h.fr (S := fun _ => False) (Fr.refl _ _).drew (fun _ _ e => e)
theorem HalfAt.drewN {E T : TypeId} {w : World} {hb : Nat} {cur : Array Value} {o : Nat} {v u : Value} {n : Nat} {f : Nat → Nat} {m : Nat} {s : Nat → Nat} (h : HalfAt E T w hb cur o v u n f m s) (q : Nat) : HalfAt E T (w.drewN q) hb cur o v u n f m s :=
  h.fr (S := fun _ => False) ((Fr.refl _ _).drewN q) (fun _ _ e => e)
/-- The words' slice is stored anew. -/
theorem HalfAt.putV {E T : TypeId} {w : World} {hb : Nat} {cur : Array Value} {o : Nat} {v u v' : Value} {n n' : Nat} {f f' : Nat → Nat} {m : Nat} {s : Nat → Nat} (h : HalfAt E T w hb cur o v u n f m s)
    (hv : Own .u64 E w 0 v' n' f') (hnv : v'.ownBlock ≠ some hb) (hnn : ∀ g, v'.ownBlock = some g → u.ownBlock ≠ some g) :
    HalfAt E T (w.setCell ⟨hb, o, none⟩ v') hb (cur.setIfInBounds o v') o v' u n' f' m s := by
  have hlt : o < cur.size := (Array.getElem?_eq_some_iff.1 h.cv).1
  have hfr : Fr (fun k => k = hb) w (w.setCell ⟨hb, o, none⟩ v') := Fr.setCell (S := fun k => k = hb) (Fr.refl _ _) (fun _ => rfl) _ _
  refine ⟨heap_setCell_same w hb o cur T _ h.blk, by rw [Array.getElem?_setIfInBounds_self_of_lt hlt], by rw [Array.getElem?_setIfInBounds_ne (by omega)]; exact h.cu, hv.fr hfr fun g hg e => ?_, h.ou.fr hfr fun g hg e => ?_, hnv, h.nu, hnn⟩
  · rw [e] at hg; exact hnv hg
  · rw [e] at hg; exact h.nu hg
/-- The marks' slice is stored anew. -/
theorem HalfAt.putU {E T : TypeId} {w : World} {hb : Nat} {cur : Array Value} {o : Nat} {v u u' : Value} {n : Nat} {f : Nat → Nat} {m m' : Nat} {s s' : Nat → Nat} (h : HalfAt E T w hb cur o v u n f m s)
    (hu : Own .u64 E w 0 u' m' s') (hnu : u'.ownBlock ≠ some hb) (hnn : ∀ g, v.ownBlock = some g → u'.ownBlock ≠ some g) :
    HalfAt E T (w.setCell ⟨hb, o + 1, none⟩ u') hb (cur.setIfInBounds (o + 1) u') o v u' n f m' s' := by
  have hlt : o + 1 < cur.size := (Array.getElem?_eq_some_iff.1 h.cu).1
  have hfr : Fr (fun k => k = hb) w (w.setCell ⟨hb, o + 1, none⟩ u') := Fr.setCell (S := fun k => k = hb) (Fr.refl _ _) (fun _ => rfl) _ _
  refine ⟨heap_setCell_same w hb (o + 1) cur T _ h.blk, by rw [Array.getElem?_setIfInBounds_ne (by omega)]; exact h.cv, by rw [Array.getElem?_setIfInBounds_self_of_lt hlt], h.ov.fr hfr fun g hg e => ?_, hu.fr hfr fun g hg e => ?_, h.nv, hnu, hnn⟩
  · rw [e] at hg; exact h.nv hg
  · rw [e] at hg; exact hnu hg

/-- The marks' slice has grown, and is stored. -/
theorem HalfAt.regrowU {E T : TypeId} {w w2 : World} {hb : Nat} {cur : Array Value} {o : Nat} {v u u2 : Value} {n : Nat} {f : Nat → Nat} {m m2 : Nat} {s s2 : Nat → Nat} (h : HalfAt E T w hb cur o v u n f m s)
    (hf : Fr (fun k => u.ownBlock = some k) w w2) (hu : Own .u64 E w2 0 u2 m2 s2) (hst : ∀ g, u2.ownBlock = some g → u.ownBlock = some g ∨ w.heap.size ≤ g) :
    w2.cell? ⟨hb, o + 1, none⟩ = some u ∧ w2.frozen? ⟨hb, o + 1, none⟩ = false ∧ HalfAt E T (w2.setCell ⟨hb, o + 1, none⟩ u2) hb (cur.setIfInBounds (o + 1) u2) o v u2 n f m2 s2 := by
  have hlt : o + 1 < cur.size := (Array.getElem?_eq_some_iff.1 h.cu).1
  have hb2 : w2.heap[hb]? = some (.cells cur T (0, 0)) := (hf.block hb h.lt h.nu).trans h.blk
  have ov2 : Own .u64 E w2 0 v n f := h.ov.fr hf fun g hg e => h.nn g hg e
  have hnu : u2.ownBlock ≠ some hb := fun e => by
    rcases hst hb e with e | e
    · exact h.nu e
    · have := h.lt; omega
  have hnn : ∀ g, v.ownBlock = some g → u2.ownBlock ≠ some g := fun g hg e => by
    rcases hst g e with e | e
    · exact h.nn g hg e
    · have := h.ov.block_lt hg; omega
  have hfr : Fr (fun k => k = hb) w2 (w2.setCell ⟨hb, o + 1, none⟩ u2) := Fr.setCell (S := fun k => k = hb) (Fr.refl _ _) (fun _ => rfl) _ _
  refine ⟨by rw [cell_of_row w2 hb (o + 1) cur T (0, 0) hb2]; exact h.cu, frozen_of_row w2 hb (o + 1) cur T hb2, heap_setCell_same w2 hb (o + 1) cur T _ hb2, by rw [Array.getElem?_setIfInBounds_ne (by omega)]; exact h.cv, by rw [Array.getElem?_setIfInBounds_self_of_lt hlt], ov2.fr hfr fun g hg e => ?_, hu.fr hfr fun g hg e => ?_, h.nv, hnu, hnn⟩
  · rw [e] at hg; exact h.nv hg
  · rw [e] at hg; exact hnu hg
/-- The words' slice has grown, and is stored. -/
theorem HalfAt.regrowV {E T : TypeId} {w w2 : World} {hb : Nat} {cur : Array Value} {o : Nat} {v u v2 : Value} {n n2 : Nat} {f f2 : Nat → Nat} {m : Nat} {s : Nat → Nat} (h : HalfAt E T w hb cur o v u n f m s)
    (hf : Fr (fun k => v.ownBlock = some k) w w2) (hv : Own .u64 E w2 0 v2 n2 f2) (hst : ∀ g, v2.ownBlock = some g → v.ownBlock = some g ∨ w.heap.size ≤ g) :
    w2.cell? ⟨hb, o, none⟩ = some v ∧ w2.frozen? ⟨hb, o, none⟩ = false ∧ HalfAt E T (w2.setCell ⟨hb, o, none⟩ v2) hb (cur.setIfInBounds o v2) o v2 u n2 f2 m s := by
  have hlt : o < cur.size := (Array.getElem?_eq_some_iff.1 h.cv).1
  have hb2 : w2.heap[hb]? = some (.cells cur T (0, 0)) := (hf.block hb h.lt h.nv).trans h.blk
  have ou2 : Own .u64 E w2 0 u m s := h.ou.fr hf fun g hg e => h.nn g e hg
  have hnv : v2.ownBlock ≠ some hb := fun e => by
    rcases hst hb e with e | e
    · exact h.nv e
    · have := h.lt; omega
  have hnn : ∀ g, v2.ownBlock = some g → u.ownBlock ≠ some g := fun g hg e => by
    rcases hst g hg with e2 | e2
    · exact h.nn g e2 e
    · have := h.ou.block_lt e; omega
  have hfr : Fr (fun k => k = hb) w2 (w2.setCell ⟨hb, o, none⟩ v2) := Fr.setCell (S := fun k => k = hb) (Fr.refl _ _) (fun _ => rfl) _ _
  refine ⟨by rw [cell_of_row w2 hb o cur T (0, 0) hb2]; exact h.cv, frozen_of_row w2 hb o cur T hb2, heap_setCell_same w2 hb o cur T _ hb2, by rw [Array.getElem?_setIfInBounds_self_of_lt hlt], by rw [Array.getElem?_setIfInBounds_ne (by omega)]; exact h.cu, hv.fr hfr fun g hg e => ?_, ou2.fr hfr fun g hg e => ?_, hnv, h.nu, hnn⟩
  · rw [e] at hg; exact hnv hg
  · rw [e] at hg; exact h.nu hg
/-- A mark, or a word, is set in its row. -/
theorem HalfAt.setU {E T : TypeId} {w : World} {hb : Nat} {cur : Array Value} {o : Nat} {v : Value} {g cap : Nat} {n : Nat} {f : Nat → Nat} {m : Nat} {s : Nat → Nat} (h : HalfAt E T w hb cur o v (.slice (some ⟨g, 0, none⟩) m cap) n f m s) {i : Nat} (hi : i < m) (x : Nat) :
    HalfAt E T (w.setCell ⟨g, i, none⟩ (.int .u64 x)) hb cur o v (.slice (some ⟨g, 0, none⟩) m cap) n f m (upd s i x) := by
  have hfr : Fr (fun k => k = g) w (w.setCell ⟨g, i, none⟩ (.int .u64 x)) := Fr.setCell (S := fun k => k = g) (Fr.refl _ _) (fun _ => rfl) _ _
  have hg : hb ≠ g := fun e => h.nu (by rw [e]; rfl)
  refine ⟨(hfr.block hb h.lt hg).trans h.blk, h.cv, h.cu, h.ov.fr hfr fun k hk e => ?_, ?_, h.nv, h.nu, h.nn⟩
  · rw [e] at hk; exact h.nn g hk rfl
  · rcases h.ou with ⟨e, _⟩ | ⟨g', cap', e, h1, h2, h3⟩
    · cases e
    · cases e
      exact .inr ⟨_, _, rfl, h1, h2, h3.set hi x⟩
theorem HalfAt.setV {E T : TypeId} {w : World} {hb : Nat} {cur : Array Value} {o : Nat} {u : Value} {g cap : Nat} {n : Nat} {f : Nat → Nat} {m : Nat} {s : Nat → Nat} (h : HalfAt E T w hb cur o (.slice (some ⟨g, 0, none⟩) n cap) u n f m s) {i : Nat} (hi : i < n) (x : Nat) :
    HalfAt E T (w.setCell ⟨g, i, none⟩ (.int .u64 x)) hb cur o (.slice (some ⟨g, 0, none⟩) n cap) u n (upd f i x) m s := by
  have hfr : Fr (fun k => k = g) w (w.setCell ⟨g, i, none⟩ (.int .u64 x)) := Fr.setCell (S := fun k => k = g) (Fr.refl _ _) (fun _ => rfl) _ _
  have hg : hb ≠ g := fun e => h.nv (by rw [e]; rfl)
  refine ⟨(hfr.block hb h.lt hg).trans h.blk, h.cv, h.cu, ?_, h.ou.fr hfr fun k hk e => ?_, h.nv, h.nu, h.nn⟩
  · rcases h.ov with ⟨e, _⟩ | ⟨g', cap', e, h1, h2, h3⟩
    · cases e
    · cases e
      exact .inr ⟨_, _, rfl, h1, h2, h3.set hi x⟩
  · rw [e] at hk; exact h.nn g rfl hk

end Go.Proofs.Ytilcigjhogcjkaa
