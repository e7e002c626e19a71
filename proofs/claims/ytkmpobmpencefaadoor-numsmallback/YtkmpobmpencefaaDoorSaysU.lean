/-
  What is proved here: a number's decimal text is one.
-/
import Derived.Test.YtkmpobmpencefaaDoorText
namespace Go.Proofs.YtkmpobmpencefaaDoor
open Go Go.RowKit

theorem dec_inj {d e : Nat → Nat} {L : Nat} (hd : ∀ i, i < L → d i ≤ 9) (he : ∀ i, i < L → e i ≤ 9) (h : dec d L = dec e L) : ∀ i, i < L → d i = e i := by
  induction L with
  | zero => intro i hi; omega
  | succ k ih =>
    have h1 := hd k (by omega)
    have h2 := he k (by omega)
    rw [dec, dec] at h
    intro i hi
    by_cases e' : i = k
    · rw [e']; omega
    · exact ih (fun i hi => hd i (by omega)) (fun i hi => he i (by omega)) (by omega) i (by omega)
theorem dec_ge {d : Nat → Nat} {L : Nat} (hL : 1 ≤ L) (h0 : d 0 ≠ 0) : 10 ^ (L - 1) ≤ dec d L := by
  obtain ⟨k, rfl⟩ : ∃ k, L = k + 1 := ⟨L - 1, by omega⟩
  rw [Nat.add_sub_cancel]
  clear hL
  induction k with
  | zero => simp [dec]; omega
  | succ k ih => rw [dec, Nat.pow_succ]; omega
theorem says_len {d e : Nat → Nat} {L M : Nat} (hM : 1 ≤ L) (hd : ∀ i, i < L → d i ≤ 9) (h : dec d L = dec e M) (h0 : M = 1 ∨ e 0 ≠ 0) : ¬ L < M := by
  intro hlt
  have h1 := dec_lt hd
  have h2 := dec_ge (d := e) (L := M) (by omega) (by rcases h0 with h | h; omega; exact h)
  have h3 : 10 ^ L ≤ 10 ^ (M - 1) := Nat.pow_le_pow_right (by decide) (by omega)
  omega
theorem says_uniq {s t : ByteArray} {x : Nat} (hs : Says s x) (ht : Says t x) : s = t := by
  obtain ⟨d, a1, a2, a3, a4⟩ := hs
  obtain ⟨e, b1, b2, b3, b4⟩ := ht
  have l1 := says_len a1 (fun i hi => (a2 i hi).2) (a3.trans b3.symm) b4
  have l2 := says_len b1 (fun i hi => (b2 i hi).2) (b3.trans a3.symm) a4
  have hl : s.size = t.size := by omega
  have hi := dec_inj (fun i hi => (a2 i hi).2) (fun i hi => (b2 i (by omega)).2) (by rw [a3, hl, b3])
  apply ByteArray.ext
  apply Array.ext
  · exact hl
  · intro i h1 h2
    apply UInt8.toNat_inj.1
    exact ((a2 i h1).1.trans (by rw [hi i h1])).trans (b2 i h2).1.symm

end Go.Proofs.YtkmpobmpencefaaDoor
