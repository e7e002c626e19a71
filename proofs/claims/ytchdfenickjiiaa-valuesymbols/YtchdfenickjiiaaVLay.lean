/-
  What is proved here: package value's layTagged: an object of given tagged fields is laid.
-/
import Derived.Test.YtchdfenickjiiaaVRoom
namespace Go.Proofs.Ytchdfenickjiiaa
open Go Go.RowKit

/-- The words of a heap behind which an object of l tagged fields was laid, j of them set. -/
def tagF (f : Nat → Nat) (n h : Nat) (r : Nat → Nat) (j : Nat) : Nat → Nat := fun i => if n + 1 ≤ i ∧ i < n + 1 + j then r (i - (n + 1)) else laid f n h i
theorem tagF_zero (f : Nat → Nat) (n h : Nat) (r : Nat → Nat) : tagF f n h r 0 = laid f n h := by
  funext i
  unfold tagF
  rw [if_neg (by omega)]
theorem tagF_succ (f : Nat → Nat) (n h : Nat) (r : Nat → Nat) (j : Nat) : upd (tagF f n h r j) (n + 1 + j) (r j) = tagF f n h r (j + 1) := by
  funext i
  by_cases e : i = n + 1 + j
  · rw [e, upd_same]
    unfold tagF
    rw [if_pos (by omega), show n + 1 + j - (n + 1) = j by omega]
  · rw [upd_other e]
    unfold tagF
    by_cases c : n + 1 ≤ i ∧ i < n + 1 + j
    · rw [if_pos c, if_pos (by omega)]
    · rw [if_neg c, if_neg (by omega)]
theorem tagF_head (f : Nat → Nat) (n h : Nat) (r : Nat → Nat) (j : Nat) : tagF f n h r j n = h := by
  unfold tagF
  rw [if_neg (by omega), laid_head]
theorem may_more {st : Nat → Bool} {n x : Nat} (h : may st x = true) : may (also st n) x = true := by
  unfold may isPtr also at *
  simp at h ⊢
  rcases h with h | h
  · exact .inl h
  · exact .inr ⟨h.1, .inl h.2⟩

set_option maxRecDepth 20000 in
set_option maxHeartbeats 4000000 in
theorem layTagged_yes (w : World) (sb hb : Nat) (X : Nat → Prop) (sz : Nat) (tm : Int) (n : Nat) (f : Nat → Nat) (st : Nat → Bool) (k : Nat) (ao : Option Addr) (l cap : Nat) (r : Nat → Nat) (h : HeapAt w hb X sz tm n f st) (hS : w.cell? ⟨sb, 0, none⟩ = some (.pointer (some ⟨hb, 0, none⟩))) (hsX : ¬ X sb)
    (hr : l = 0 ∨ ∃ b off, ao = some ⟨b, off, none⟩ ∧ ¬ X b ∧ ∀ i, i < l → w.cell? ⟨b, off + i, none⟩ = some (.int .u64 (r i))) (hrl : ∀ i, i < l → r i < 18446744073709551616) (hm : ∀ i, i < l → may st (r i) = true) (hk1 : 1 ≤ k) (hk : k ≤ 63) (hroom : n + 1 + l + 0 ≤ sz) :
    Calls Try.prog 49 #[.pointer (some ⟨sb, 0, none⟩), .int .i64 (k : Int), .slice ao l cap] w fun e w' => e = .returned (.tuple #[.int .u64 ((4 * n : Nat) : Int), .bool true]) ∧ ∃ X2, HeapAt w' hb X2 sz tm (n + 1 + l + 0) (tagF f n (hOf k l 0) r l) (also st n) ∧ Grows w.heap.size X X2 ∧ Fr X w w' := by
  have hz := h.good.2.2.2
  have hsl : sb < w.heap.size := World.block_lt_of_cell? _ _ hS
  have hll : l ≤ 1048576 := by omega
  have KM := maySet_yes w sb hb X sz tm n f st ao l cap r h hS (by rcases hr with e | ⟨b, off, e1, _, e2⟩; exact .inl e; exact .inr ⟨b, off, e1, e2⟩) (by omega) hrl hm
  obtain ⟨p, hp⟩ : ∃ p, p = 4 * n := ⟨_, rfl⟩
  have hpl : p < 18446744073709551616 := by omega
  have KA := fun q => alloc_yes (w.drewN q) hb X sz tm n f st k l 0 (h.drewN q) hk1 hk (by omega) (by omega) hroom
  rw [← hp] at KA ⊢
  have hXl : ∀ k, X k → k < w.heap.size := fun k hk => h.lt hk
  have HKM := hide KM
  have HKA := hide KA
  have HP := hide hp
  have HR := hide hr
  have HRL := hide hrl
  have HM := hide hm
  clear KM KA hp hr hrl hm h
  go_enter Try.func49, Try.ntmps49
  go_wp2_with (first
    | (go_at_call 73; refine HKM.out.mono ?_; rintro e w1 ⟨rfl, q1, hq1⟩; have c0 : w1.cell? ⟨sb, 0, none⟩ = some (.pointer (some ⟨hb, 0, none⟩)) := (by rw [hq1]; exact hS); have HQ1 := hide hq1; clear hq1)
    | (go_at_call 51; have KA1 := HKA.out q1; rw [← HQ1.out] at KA1; refine KA1.mono ?_; rintro e w2 ⟨rfl, X2, H2, G2, F2⟩; have G2' : Grows w.heap.size X X2 := (by rw [HQ1.out] at G2; exact G2); have F2' : Fr X w w2 := Fr.trans (by rw [HQ1.out]; exact (Fr.refl _ w).drewN q1) F2 (fun _ _ e => e); have HH2 := hide H2; have HG2 := hide G2'; have HF2 := hide F2'; clear KA1 H2 G2 F2 G2' F2' c0))
  have hnX2 : ∀ b, b < w.heap.size → ¬ X b → ¬ X2 b := fun b hb hn e => by
    rcases HG2.out b e with e | e
    · exact hn e
    · omega
  go_loopw [31] (fun a31 wr => ∃ j : Nat, j ≤ l ∧ a31 = .int .i64 (j : Int) ∧ HeapAt wr hb X2 sz tm (n + 1 + l + 0) (tagF f n (hOf k l 0) r j) (also st n) ∧ Fr X2 w2 wr) (fun a31 _ => l - (intOf a31).toNat)
  case atStart => exact ⟨0, Nat.zero_le _, rfl, by rw [tagF_zero]; exact HH2.out, Fr.refl _ _⟩
  case round =>
    obtain ⟨j, hj, rfl, hH, hF⟩ := hrel
    have FW : Fr X w wr := Fr.trans HF2.out hF (fun k hk e => by
      rcases HG2.out k e with e | e
      · exact e
      · omega)
    have c0 := (FW.cell (o := 0) hsl hsX).trans hS
    by_cases hlt : j < l
    · obtain ⟨b, off, rfl, hbX, hc⟩ : ∃ b off, ao = some ⟨b, off, none⟩ ∧ ¬ X b ∧ ∀ i, i < l → w.cell? ⟨b, off + i, none⟩ = some (.int .u64 (r i)) := by
        rcases HR.out with e | e
        · omega
        · exact e
      have cx := (FW.cell (o := off + j) (World.block_lt_of_cell? _ _ (hc j hlt)) hbX).trans (hc j hlt)
      have hq : p / 4 = n := by have := HP.out; omega
      have hp4 : p % 4 = 0 := by have := HP.out; omega
      have KS := set_yes wr hb X2 sz tm (n + 1 + l + 0) (tagF f n (hOf k l 0) r j) (also st n) p j (r j) hH hpl (HRL.out j hlt) (by unfold isPtr; rw [hq, also_new]; simp [hp4]) (by rw [hq, tagF_head, hTag_of hk (by omega)]; exact hlt) (may_more (HM.out j hlt))
      rw [hq, tagF_succ] at KS
      have HKS := hide KS
      generalize r j = x at *
      have hjI : (j : Int) < (l : Int) := by omega
      have HF := hide hF
      clear KS hH hF hc FW hq hp4
      go_wp2_with (go_at_call 83; refine HKS.out.mono ?_; rintro e w3 ⟨rfl, H3, F3⟩)
      refine ⟨⟨j + 1, by omega, by go_num, H3, Fr.trans HF.out F3 (fun _ _ e => e)⟩, ?_⟩
      simp [intOf]
      omega
    · have hjl : l = j := by omega
      subst hjl
      have HH := hide hH
      have HFW := hide FW
      clear hH FW hF
      go_wp2
      go_ret2
      exact ⟨rfl, X2, HH.out, HG2.out, HFW.out⟩

end Go.Proofs.Ytchdfenickjiiaa
