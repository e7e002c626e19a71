/-
  What is proved here: an object is laid; what the statements' own first question (awake) answers.
-/
import Derived.Test.YtchdfenickjiiaaHHeap5
namespace Go.Proofs.Ytchdfenickjiiaa
open Go Go.RowKit

theorem laid_lt {f : Nat → Nat} {n x : Nat} (hf : ∀ i, i < n → f i < 18446744073709551616) (hx : x < 18446744073709551616) : ∀ i, laid f n x i < 18446744073709551616 := fun i => by
  unfold laid
  split
  · exact hf i ‹_›
  · split
    · exact hx
    · split <;> decide

set_option maxRecDepth 20000 in
theorem alloc_yes (w : World) (hb : Nat) (X : Nat → Prop) (sz : Nat) (tm : Int) (n : Nat) (f : Nat → Nat) (st : Nat → Bool) (k t r : Nat) (h : HeapAt w hb X sz tm n f st) (hk1 : 1 ≤ k) (hk : k ≤ 63) (ht : t ≤ 1048576) (hr : r ≤ 1048576) (hroom : n + 1 + t + r ≤ sz) :
    Calls Try.prog 51 #[.pointer (some ⟨hb, 0, none⟩), .int .i64 (k : Int), .int .i64 (t : Int), .int .i64 (r : Int)] w fun e w' => e = .returned (.tuple #[.int .u64 ((4 * n : Nat) : Int), .bool true]) ∧ ∃ X2, HeapAt w' hb X2 sz tm (n + 1 + t + r) (laid f n (hOf k t r)) (also st n) ∧ Grows w.heap.size X X2 ∧ Fr X w w' := by
  have h4 : cntB (r : Int) = true := cntB_yes (by omega) (by omega)
  have h5 : cntB (t : Int) = true := cntB_yes (by omega) (by omega)
  have hlen := hLen_of hk ht hr
  have hx := hOf_lt hk ht hr
  have hnz := h.good.2.2
  have HA := hide h
  obtain ⟨i, v, u, v', u', m, s, n', f', m', s', h⟩ := h
  have hc : w.cell? ⟨hb, 5, none⟩ = some (.int .i64 (sz : Int)) := by
    rw [cell_of_row w hb 5 _ _ _ h.a.blk]
    rcases Nat.le_one_iff_eq_zero_or_eq_one.1 h.i1 with e | e <;> rw [e] <;> rfl
  have KW := fun w => words_num (hOf k t r) w hx
  rw [hlen] at KW
  have KN := fun q => now_any (w.drewN q) hb i v u v' u' sz tm h.i1 (h.a.drewN q).blk
  have KL := fun q => lay_any 134 (w.drewN q) hb _ (2 * i) v u n f m s (hOf k t r) (h.a.drewN q) (by rw [hlen]; omega) h.ml h.sb hx
  have HI := hide h
  clear h
  go_enter Try.func51, Try.ntmps51
  go_wp2_with (first | (go_at_call 87; refine (isCount_any _ _).mono ?_; rintro e w' ⟨rfl, rfl⟩) | (go_at_call 88; refine (headerOf_any _ _ _ _ hk ht hr).mono ?_; rintro e w' ⟨rfl, rfl⟩))
  go_quiet ((first | (go_at_call 89; exact Calls.quiet_of_same (KW _)) | (go_at_call 20; exact Calls.quiet_of (used_any _ _ X sz tm n f st (HA.out.drewN _)))))
  go_wp2_with (first | (go_at_call 60; refine (KN _).mono ?_; rintro e w1 ⟨rfl, q1, rfl⟩) | (go_at_call 90; refine (KL _).mono ?_; rintro e w2 ⟨rfl, v2, u2, m2, s2, ha2, hmk2, hsb2, hml2, su2, sv2, hf2⟩; have HA2 := hide ha2; have HMK := hide hmk2; have HF2 := hide hf2; clear ha2 hmk2 hf2))
  go_ret2
  have ha2 := HA2.out
  rw [heapCells_u HI.out.i1, heapCells_v HI.out.i1, hlen, ← Nat.add_assoc, ← Nat.add_assoc] at ha2
  have hg : Good (n + 1 + t + r) (laid f n (hOf k t r)) (also st n) := by
    have := HI.out.good.laid (x := hOf k t r) (hOf_mod k t r)
    rwa [hlen, ← Nat.add_assoc, ← Nat.add_assoc] at this
  have hmk : ∀ p, also st n p = marks m2 s2 p := fun p => by
    rw [HMK.out]
    unfold also
    rw [HI.out.marked]
  obtain ⟨X2, e1, e2, e3⟩ := HI.out.swap ha2 su2 sv2 (Fr.trans ((Fr.refl _ _).drewN _) HF2.out (fun _ _ e => e)) hmk hsb2 hml2 hg (fun i _ => laid_lt HI.out.fb hx i) (by omega)
  exact ⟨rfl, X2, e1, e2, e3⟩

theorem Grows.ge {H B : Nat} {X X2 : Nat → Prop} (h : Grows H X X2) (hX : ∀ k, X k → B ≤ k) (hH : B ≤ H) : ∀ k, X2 k → B ≤ k := fun k hk => by
  rcases h k hk with e | e
  · exact hX k e
  · omega
/-- What turns nothing below B. -/
theorem Fr.from {B : Nat} {X : Nat → Prop} {a b : World} (h : Fr X a b) (hX : ∀ k, X k → B ≤ k) : Fr (fun k => B ≤ k) a b := h.mono fun k _ e => hX k e
theorem Fr.on {B : Nat} {a b c : World} (h : Fr (fun k => B ≤ k) a b) (k : Fr (fun k => B ≤ k) b c) : Fr (fun k => B ≤ k) a c := h.trans k fun _ _ e => e
theorem Fr.none {a b : World} (h : Fr (fun k => a.heap.size ≤ k) a b) : Fr (fun _ => False) a b := h.mono fun k hk e => by omega
theorem Fr.some {B : Nat} {a b : World} (h : Fr (fun _ => False) a b) : Fr (fun k => B ≤ k) a b := h.mono fun _ _ e => e.elim

end Go.Proofs.Ytchdfenickjiiaa
