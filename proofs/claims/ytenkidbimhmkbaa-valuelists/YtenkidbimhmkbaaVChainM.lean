/-
  What is proved here: the words of a chain of pairs, and what the loop of chain keeps; Cons.
-/
import Derived.Test.YtenkidbimhmkbaaVBack
import Derived.Test.YtenkidbimhmkbaaVRound
import Derived.Test.YtenkidbimhmkbaaVTextM
namespace Go.Proofs.Ytenkidbimhmkbaa
open Go Go.RowKit

/-- The words behind a new pair. -/
def consF (f : Nat → Nat) (n a b : Nat) : Nat → Nat := tagF f n (hOf 1 2 0) (fun i => if i = 0 then a else b) 2
/-- What the pair k of a chain has as its cdr. -/
def chainE (n e : Nat) : Nat → Nat
  | 0 => e
  | k + 1 => 4 * (n + 3 * k)
/-- The words behind the first k pairs of a chain. -/
def chainF (f : Nat → Nat) (n e : Nat) (u : Nat → Nat) : Nat → (Nat → Nat)
  | 0 => f
  | k + 1 => consF (chainF f n e u k) (n + 3 * k) (u k) (chainE n e k)
def chainSt (st : Nat → Bool) (n : Nat) : Nat → (Nat → Bool)
  | 0 => st
  | k + 1 => also (chainSt st n k) (n + 3 * k)
theorem chainF_congr {f : Nat → Nat} {n e : Nat} {u u' : Nat → Nat} : ∀ {k : Nat}, (∀ j, j < k → u j = u' j) → chainF f n e u k = chainF f n e u' k
  | 0, _ => rfl
  | k + 1, h => by
    show consF (chainF f n e u k) _ (u k) _ = consF (chainF f n e u' k) _ (u' k) _
    rw [chainF_congr (fun j hj => h j (by omega)), h k (by omega)]
theorem may_chain {st : Nat → Bool} {n x : Nat} (h : may st x = true) : ∀ k, may (chainSt st n k) x = true
  | 0 => h
  | k + 1 => may_more (may_chain h k)
theorem may_chainE {st : Nat → Bool} {n e : Nat} (he : may st e = true) : ∀ k, may (chainSt st n k) (chainE n e k) = true
  | 0 => he
  | k + 1 => by
    show may (also (chainSt st n k) (n + 3 * k)) (4 * (n + 3 * k)) = true
    unfold may isPtr
    rw [show 4 * (n + 3 * k) / 4 = n + 3 * k by omega, also_new, show 4 * (n + 3 * k) % 4 = 0 by omega]
    rfl
theorem chainE_lt {n e : Nat} (he : e < 18446744073709551616) : ∀ {k : Nat}, n + 3 * k ≤ 1048576 → chainE n e k < 18446744073709551616
  | 0, _ => he
  | k + 1, h => by show 4 * (n + 3 * k) < _; omega
/-- The words that have come. -/
def gotW (r : Nat → Nat) (pre : List Nat) (k : Nat) : Nat := r (pre.getD k 0)
theorem gotW_old {r : Nat → Nat} {pre : List Nat} {x j : Nat} (hj : j < pre.length) : gotW r (pre ++ [x]) j = gotW r pre j := by
  unfold gotW
  congr 1
  simp [List.getElem?_append_left hj]
theorem gotW_new {r : Nat → Nat} {pre : List Nat} {x : Nat} : gotW r (pre ++ [x]) pre.length = r x := by
  unfold gotW
  congr 1
  simp
theorem gotW_downs {r : Nat → Nat} {l k j : Nat} (hj : j < k) : gotW r (downs l k) j = r (l - 1 - j) := by
  unfold gotW downs
  congr 1
  rw [List.getD_eq_getElem?_getD, List.getElem?_map, List.getElem?_range hj]
  rfl

set_option maxRecDepth 20000 in
set_option maxHeartbeats 2000000 in
theorem cons_yes (w : World) (sb hb : Nat) (X : Nat → Prop) (sz : Nat) (tm : Int) (n : Nat) (f : Nat → Nat) (st : Nat → Bool) (a b : Nat) (h : HeapAt w hb X sz tm n f st) (hS : w.cell? ⟨sb, 0, none⟩ = some (.pointer (some ⟨hb, 0, none⟩))) (hsX : ¬ X sb) (ha : a < 18446744073709551616) (hb2 : b < 18446744073709551616) (ma : may st a = true) (mb : may st b = true) (hroom : n + 3 ≤ sz) :
    Calls Try.prog 82 #[.pointer (some ⟨sb, 0, none⟩), .int .u64 (a : Int), .int .u64 (b : Int)] w fun e w' => e = .returned (.tuple #[.int .u64 ((4 * n : Nat) : Int), .bool true]) ∧ ∃ X2, HeapAt w' hb X2 sz tm (n + 3) (consF f n a b) (also st n) ∧ Grows w.heap.size X X2 ∧ Fr X w w' := by
  obtain ⟨W1, hW1⟩ : ∃ W1, W1 = w.alloc (.cells #[.int .u64 (a : Int), .int .u64 (b : Int)] 22) := ⟨_, rfl⟩
  have F1 : Fr (fun _ => False) w W1 := by rw [hW1]; exact (Fr.refl _ w).alloc _
  have B1 : W1.heap[w.heap.size]? = some (.cells #[.int .u64 (a : Int), .int .u64 (b : Int)] 22 (0, 0)) := by rw [hW1]; exact heap_alloc_new w _
  have hsl : sb < w.heap.size := World.block_lt_of_cell? _ _ hS
  have K := layTagged_yes W1 sb hb X sz tm n f st 1 (some ⟨w.heap.size, 0, none⟩) 2 2 (fun i => if i = 0 then a else b) (h.fr F1 (fun _ _ e => e)) ((F1.cell hsl (fun e => e)).trans hS) hsX (.inr ⟨w.heap.size, 0, rfl, fun e => by have := h.lt e; omega, fun i hi => by
    rw [Nat.zero_add, cell_of_row W1 _ i _ _ _ B1]
    rcases (show i = 0 ∨ i = 1 by omega) with e | e <;> subst e <;> rfl⟩) (fun i _ => by split <;> omega) (fun i _ => by split <;> assumption) (by decide) (by decide) (by omega)
  obtain ⟨p, hp⟩ : ∃ p, p = 4 * n := ⟨_, rfl⟩
  rw [← hp] at K ⊢
  have HK := hide K
  have HF1 := hide F1
  have HW1 := hide hW1
  clear K F1 B1 hW1 h hS hp
  go_enter Try.func82, Try.ntmps82
  go_wp2_with fail
  rw [← HW1.out]
  go_wp2_with (go_at_call 49; refine HK.out.mono ?_; rintro e w2 ⟨rfl, X2, H2, G2, F2⟩; have HH2 := hide H2; have HG2 := hide G2; have HF2 := hide F2; clear H2 G2 F2)
  go_ret2
  exact ⟨rfl, X2, HH2.out, fun k hk => by
    rcases HG2.out k hk with e | e
    · exact .inl e
    · exact .inr (Nat.le_trans HF1.out.size e), Fr.trans (HF1.out.mono fun _ _ e => e.elim) HF2.out (fun _ _ e => e)⟩

end Go.Proofs.Ytenkidbimhmkbaa
