/-
  What is proved here: plain facts on headers, on bits, and on rows of words with objects in them; no walk. what a call may turn, by the blocks that it may turn; a half of a heap in memory; no walk.
-/
import Derived.Test.YtilcigjhogcjkaaBase
import Derived.Deep.AppendLies
import Derived.Deep.QuietTactic
namespace Go.Proofs.Ytilcigjhogcjkaa
open Go Go.RowKit

def hTag (x : Nat) : Nat := x / 256 % 16777216

def hRaw (x : Nat) : Nat := x / 4294967296 % 16777216

def hLen (x : Nat) : Nat := 1 + hTag x + hRaw x

/-- The places that m words of bits mark. -/
def marks (m : Nat) (s : Nat → Nat) (p : Nat) : Bool := decide (p / 64 < m) && (s (p / 64)).testBit (p % 64)

/-- The words from 0 to below n, and where objects are. -/
structure Good (n : Nat) (f : Nat → Nat) (st : Nat → Bool) : Prop where
  pos : 1 ≤ n
  inn : ∀ p, st p = true → 1 ≤ p ∧ p + hLen (f p) ≤ n
  tag : ∀ p, st p = true → f p % 4 = 3
  apart : ∀ p q, st p = true → st q = true → p < q → p + hLen (f p) ≤ q

theorem Good.lt {n : Nat} {f : Nat → Nat} {st : Nat → Bool} (h : Good n f st) {p : Nat} (hp : st p = true) : p < n := by
  have := (h.inn p hp).2
  unfold hLen at this
  omega

theorem Good.one : Good 1 (fun _ => 0) (fun _ => false) := ⟨Nat.le_refl _, (fun _ h => by cases h), (fun _ h => by cases h), (fun _ _ h => by cases h)⟩

/-- The words behind a new object at n, whose header is x. -/
def laid (f : Nat → Nat) (n x : Nat) : Nat → Nat := fun i => if i < n then f i else if i = n then x else if i ≤ n + hTag x then 2 else 0

def also (st : Nat → Bool) (n : Nat) : Nat → Bool := fun p => st p || p == n

theorem laid_old {f : Nat → Nat} {n x i : Nat} (h : i < n) : laid f n x i = f i := by simp [laid, h]

theorem laid_head (f : Nat → Nat) (n x : Nat) : laid f n x n = x := by simp [laid]

theorem also_old {st : Nat → Bool} {n p : Nat} (h : p ≠ n) : also st n p = st p := by simp [also, h]

theorem Good.laid {n : Nat} {f : Nat → Nat} {st : Nat → Bool} (h : Good n f st) {x : Nat} (hx : x % 4 = 3) :
    Good (n + hLen x) (laid f n x) (also st n) := by
  have hp := h.pos
  have key : ∀ p, also st n p = true → p = n ∨ (st p = true ∧ p < n) := fun p e => by
    by_cases hpn : p = n
    · exact .inl hpn
    · rw [also_old hpn] at e; exact .inr ⟨e, h.lt e⟩
  refine ⟨by omega, fun p e => ?_, fun p e => ?_, fun p q e e' hpq => ?_⟩
  · rcases key p e with rfl | ⟨e1, e2⟩
    · rw [laid_head]; omega
    · rw [laid_old e2]; have := h.inn p e1; omega
  · rcases key p e with rfl | ⟨e1, e2⟩
    · rw [laid_head, hx]
    · rw [laid_old e2]; exact h.tag p e1
  · rcases key p e with rfl | ⟨e1, e2⟩
    · rcases key q e' with rfl | ⟨e3, e4⟩
      · omega
      · omega
    · rw [laid_old e2]
      rcases key q e' with rfl | ⟨e3, e4⟩
      · exact (h.inn p e1).2
      · exact h.apart p q e1 e3 hpq

theorem Good.set {n : Nat} {f : Nat → Nat} {st : Nat → Bool} (h : Good n f st) {j x : Nat} (hj : st j = false) : Good n (upd f j x) st := by
  have key : ∀ p, st p = true → upd f j x p = f p := fun p e => upd_other (fun ee => by rw [ee, hj] at e; cases e)
  refine ⟨h.pos, fun p e => ?_, fun p e => ?_, fun p q e e' hpq => ?_⟩
  · rw [key p e]; exact h.inn p e
  · rw [key p e]; exact h.tag p e
  · rw [key p e]; exact h.apart p q e e' hpq

/-- Nothing but blocks of S has turned; blocks may have come. -/
structure Fr (S : Nat → Prop) (w w' : World) : Prop where
  os : w'.os = w.os
  tape : w'.tape = w.tape
  output : w'.output = w.output
  size : w.heap.size ≤ w'.heap.size
  block : ∀ k, k < w.heap.size → ¬ S k → w'.heap[k]? = w.heap[k]?

theorem Fr.refl (S : Nat → Prop) (w : World) : Fr S w w := ⟨rfl, rfl, rfl, Nat.le_refl _, fun _ _ _ => rfl⟩

theorem Fr.trans {S S' : Nat → Prop} {a b c : World} (h : Fr S a b) (k : Fr S' b c) (hs : ∀ x, x < a.heap.size → S' x → S x) : Fr S a c :=
  ⟨k.os.trans h.os, k.tape.trans h.tape, k.output.trans h.output, Nat.le_trans h.size k.size, fun i hi hn => (k.block i (Nat.lt_of_lt_of_le hi h.size) (fun e => hn (hs i hi e))).trans (h.block i hi hn)⟩

theorem Fr.mono {S S' : Nat → Prop} {a b : World} (h : Fr S a b) (hs : ∀ x, x < a.heap.size → S x → S' x) : Fr S' a b :=
  ⟨h.os, h.tape, h.output, h.size, fun i hi hn => h.block i hi (fun e => hn (hs i hi e))⟩

theorem Fr.drew {S : Nat → Prop} {a w : World} (h : Fr S a w) : Fr S a w.drew := ⟨h.os, h.tape, h.output, h.size, h.block⟩

theorem Fr.alloc {S : Nat → Prop} {a w : World} (h : Fr S a w) (o : Obj) : Fr S a (w.alloc o) :=
  ⟨h.os, h.tape, h.output, by have := h.size; simp; omega, fun k hk hn => (heap_alloc_old w o (r := k) (by have := h.size; omega)).trans (h.block k hk hn)⟩

theorem Fr.setCell {S : Nat → Prop} {a w : World} (h : Fr S a w) {g : Nat} (hg : g < a.heap.size → S g) (i : Nat) (u : Value) : Fr S a (w.setCell ⟨g, i, none⟩ u) :=
  ⟨h.os, h.tape, h.output, by simpa [World.setCell] using h.size, fun k hk hn => (heap_setCell_other _ _ _ _ (fun e => hn (by rw [e]; rw [e] at hk; exact hg hk))).trans (h.block k hk hn)⟩

theorem Fr.grow {S : Nat → Prop} {a w w' : World} (h : Fr S a w) {r : Option Nat} (g : w.grownBy w' r) (hr : ∀ k, k < a.heap.size → r = some k → S k) : Fr S a w' :=
  ⟨g.os.trans h.os, g.tape.trans h.tape, g.output.trans h.output, Nat.le_trans h.size g.size, fun k hk hn => (g.block k (Nat.lt_of_lt_of_le hk h.size) (fun e => hn (hr k hk e.symm))).trans (h.block k hk hn)⟩

theorem Fr.below {S : Nat → Prop} {B : Nat} {a w : World} (h : Fr S a w) (hB : B ≤ a.heap.size) (hs : ∀ k, k < B → ¬ S k) : Below B a w :=
  ⟨h.os, h.tape, h.output, h.size, fun k hk => h.block k (by omega) (hs k hk)⟩

theorem Fr.cell {S : Nat → Prop} {w w' : World} (h : Fr S w w') {b o : Nat} (hb : b < w.heap.size) (hn : ¬ S b) : w'.cell? ⟨b, o, none⟩ = w.cell? ⟨b, o, none⟩ := World.cell?_of_block (w := w) (h.block b hb hn)

/-- The block of a value that owns a row lies in memory. -/
theorem Own.block_lt {k : IntKind} {E : TypeId} {w : World} {base : Nat} {v : Value} {n : Nat} {f : Nat → Nat} (h : Own k E w base v n f) {g : Nat} (hg : v.ownBlock = some g) : g < w.heap.size := by
  rcases h with ⟨rfl, rfl⟩ | ⟨b, cap, rfl, h1, h2, h3⟩
  · cases hg
  · have e : b = g := by simpa [Value.ownBlock] using hg
    rw [← e]; exact h3.lt

theorem Own.keep {k : IntKind} {E : TypeId} {w w' : World} {base : Nat} {v : Value} {n : Nat} {f : Nat → Nat} (h : Own k E w base v n f) (hb : ∀ g, v.ownBlock = some g → w'.heap[g]? = w.heap[g]?) : Own k E w' base v n f := by
  rcases h with ⟨rfl, rfl⟩ | ⟨g, cap, rfl, h1, h2, h3⟩
  · exact .inl ⟨rfl, rfl⟩
  · exact .inr ⟨g, cap, rfl, h1, h2, h3.block (hb g rfl)⟩

theorem Own.fr {k : IntKind} {E : TypeId} {S : Nat → Prop} {w w' : World} {base : Nat} {v : Value} {n : Nat} {f : Nat → Nat} (h : Own k E w base v n f) (hf : Fr S w w') (hs : ∀ g, v.ownBlock = some g → ¬ S g) : Own k E w' base v n f :=
  h.keep fun g hg => hf.block g (h.block_lt hg) (hs g hg)

theorem Own.congr {k : IntKind} {E : TypeId} {w : World} {base : Nat} {v : Value} {n : Nat} {f f' : Nat → Nat} (h : Own k E w base v n f) (hf : ∀ i, i < n → f i = f' i) : Own k E w base v n f' := by
  rcases h with ⟨rfl, rfl⟩ | ⟨g, cap, rfl, h1, h2, h3⟩
  · exact .inl ⟨rfl, rfl⟩
  · exact .inr ⟨g, cap, rfl, h1, h2, h3.congr hf⟩

/-- A row with one number more, as append leaves it. -/
theorem Own.snoc {k : IntKind} {E : TypeId} {w : World} {base : Nat} {v : Value} {n x : Nat} {f : Nat → Nat} (h : w.ownsRow base E 1 v (n + 1) (cellsOf k f n ++ [.int k x])) : Own k E w base v (n + 1) (upd f n x) :=
  Own.of_row h fun i hi => by
    by_cases e : i = n
    · subst e
      rw [upd_same, List.getElem?_append_right (by rw [cellsOf_length]; exact Nat.le_refl _), cellsOf_length]
      simp
    · rw [upd_other e, List.getElem?_append_left (by rw [cellsOf_length]; omega), cellsOf_get _ _ _ _ (by omega)]

/-- A half of a heap, in the cells o and o + 1 of the block hb, whose cells are cur: its words (n of them, f), its marks (m words, s). -/
structure HalfAt (E T : TypeId) (w : World) (hb : Nat) (cur : Array Value) (o : Nat) (v u : Value) (n : Nat) (f : Nat → Nat) (m : Nat) (s : Nat → Nat) : Prop where
  blk : w.heap[hb]? = some (.cells cur T (0, 0))
  cv : cur[o]? = some v
  cu : cur[o + 1]? = some u
  ov : Own .u64 E w 0 v n f
  ou : Own .u64 E w 0 u m s
  nv : v.ownBlock ≠ some hb
  nu : u.ownBlock ≠ some hb
  nn : ∀ g, v.ownBlock = some g → u.ownBlock ≠ some g

/-- The blocks of a half. -/
def foot (hb : Nat) (v u : Value) (k : Nat) : Prop := k = hb ∨ v.ownBlock = some k ∨ u.ownBlock = some k

theorem HalfAt.lt {E T : TypeId} {w : World} {hb : Nat} {cur : Array Value} {o : Nat} {v u : Value} {n : Nat} {f : Nat → Nat} {m : Nat} {s : Nat → Nat} (h : HalfAt E T w hb cur o v u n f m s) : hb < w.heap.size :=
  (Array.getElem?_eq_some_iff.1 h.blk).1

theorem HalfAt.free {E T : TypeId} {w : World} {hb : Nat} {cur : Array Value} {o : Nat} {v u : Value} {n : Nat} {f : Nat → Nat} {m : Nat} {s : Nat → Nat} (h : HalfAt E T w hb cur o v u n f m s) (i : Nat) : w.frozen? ⟨hb, i, none⟩ = false :=
  frozen_of_row w hb i cur T h.blk

/-- What turns no block of a half keeps it. -/
theorem HalfAt.fr {E T : TypeId} {S : Nat → Prop} {w w' : World} {hb : Nat} {cur : Array Value} {o : Nat} {v u : Value} {n : Nat} {f : Nat → Nat} {m : Nat} {s : Nat → Nat} (h : HalfAt E T w hb cur o v u n f m s) (hf : Fr S w w') (hs : ∀ k, foot hb v u k → ¬ S k) : HalfAt E T w' hb cur o v u n f m s :=
  ⟨(hf.block hb h.lt (hs hb (.inl rfl))).trans h.blk, h.cv, h.cu, h.ov.fr hf fun g hg => hs g (.inr (.inl hg)), h.ou.fr hf fun g hg => hs g (.inr (.inr hg)), h.nv, h.nu, h.nn⟩

theorem HalfAt.alloc {E T : TypeId} {w : World} {hb : Nat} {cur : Array Value} {o : Nat} {v u : Value} {n : Nat} {f : Nat → Nat} {m : Nat} {s : Nat → Nat} (h : HalfAt E T w hb cur o v u n f m s) (ob : Obj) : HalfAt E T (w.alloc ob) hb cur o v u n f m s :=
  h.fr (S := fun _ => False) ((Fr.refl _ _).alloc ob) (fun _ _ e => e)

theorem HalfAt.drew {E T : TypeId} {w : World} {hb : Nat} {cur : Array Value} {o : Nat} {v u : Value} {n : Nat} {f : Nat → Nat} {m : Nat} {s : Nat → Nat} (h : HalfAt E T w hb cur o v u n f m s) : HalfAt E T w.drew hb cur o v u n f m s :=
  h.fr (S := fun _ => False) (Fr.refl _ _).drew (fun _ _ e => e)

/-- The words' slice is stored anew. -/
theorem HalfAt.putV {E T : TypeId} {w : World} {hb : Nat} {cur : Array Value} {o : Nat} {v u v' : Value} {n n' : Nat} {f f' : Nat → Nat} {m : Nat} {s : Nat → Nat} (h : HalfAt E T w hb cur o v u n f m s)
    (hv : Own .u64 E w 0 v' n' f') (hnv : v'.ownBlock ≠ some hb) (hnn : ∀ g, v'.ownBlock = some g → u.ownBlock ≠ some g) :
    HalfAt E T (w.setCell ⟨hb, o, none⟩ v') hb (cur.setIfInBounds o v') o v' u n' f' m s := by
  have hlt : o < cur.size := (Array.getElem?_eq_some_iff.1 h.cv).1
  have hfr : Fr (fun k => k = hb) w (w.setCell ⟨hb, o, none⟩ v') := Fr.setCell (S := fun k => k = hb) (Fr.refl _ _) (fun _ => rfl) _ _
  refine ⟨heap_setCell_same w hb o cur T _ h.blk, by rw [Array.getElem?_setIfInBounds_self_of_lt hlt], by rw [Array.getElem?_setIfInBounds_ne (by omega)]; exact h.cu, hv.fr hfr fun g hg e => ?_, h.ou.fr hfr fun g hg e => ?_, hnv, h.nu, hnn⟩
  · rw [e] at hg; exact hnv hg
  · rw [e] at hg; exact h.nu hg

end Go.Proofs.Ytilcigjhogcjkaa
