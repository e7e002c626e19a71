/-
  What is proved here: package value's layRaw: an object of given raw fields is laid.
-/
import Derived.Test.YtchdfenickjiiaaVLay
namespace Go.Proofs.Ytchdfenickjiiaa
open Go Go.RowKit

set_option maxRecDepth 20000 in
set_option maxHeartbeats 4000000 in
theorem layRaw_yes (w : World) (sb hb : Nat) (X : Nat → Prop) (sz : Nat) (tm : Int) (n : Nat) (f : Nat → Nat) (st : Nat → Bool) (k : Nat) (ao : Option Addr) (l cap : Nat) (r : Nat → Nat) (h : HeapAt w hb X sz tm n f st) (hS : w.cell? ⟨sb, 0, none⟩ = some (.pointer (some ⟨hb, 0, none⟩))) (hsX : ¬ X sb)
    (hr : l = 0 ∨ ∃ b off, ao = some ⟨b, off, none⟩ ∧ ¬ X b ∧ ∀ i, i < l → w.cell? ⟨b, off + i, none⟩ = some (.int .u64 (r i))) (hrl : ∀ i, i < l → r i < 18446744073709551616) (hk1 : 1 ≤ k) (hk : k ≤ 63) (hroom : n + 1 + 0 + l ≤ sz) :
    Calls Try.prog 63 #[.pointer (some ⟨sb, 0, none⟩), .int .i64 (k : Int), .slice ao l cap] w fun e w' => e = .returned (.tuple #[.int .u64 ((4 * n : Nat) : Int), .bool true]) ∧ ∃ X2, HeapAt w' hb X2 sz tm (n + 1 + 0 + l) (tagF f n (hOf k 0 l) r l) (also st n) ∧ Grows w.heap.size X X2 ∧ Fr X w w' := by
  have hz := h.good.2.2.2
  have hsl : sb < w.heap.size := World.block_lt_of_cell? _ _ hS
  have hll : l ≤ 1048576 := by omega
  obtain ⟨p, hp⟩ : ∃ p, p = 4 * n := ⟨_, rfl⟩
  have hpl : p < 18446744073709551616 := by omega
  have KA := alloc_yes w hb X sz tm n f st k 0 l h hk1 hk (by omega) (by omega) hroom
  rw [← hp] at KA ⊢
  have hXl : ∀ k, X k → k < w.heap.size := fun k hk => h.lt hk
  have HKA := hide KA
  have HP := hide hp
  have HR := hide hr
  have HRL := hide hrl
  clear KA hp hr hrl h
  go_enter Try.func63, Try.ntmps63
  go_wp2_with (go_at_call 51; refine HKA.out.mono ?_; rintro e w2 ⟨rfl, X2, H2, G2, F2⟩; have HH2 := hide H2; have HG2 := hide G2; have HF2 := hide F2; clear H2 G2 F2)
  have hnX2 : ∀ b, b < w.heap.size → ¬ X b → ¬ X2 b := fun b hb hn e => by
    rcases HG2.out b e with e | e
    · exact hn e
    · omega
  go_loopw [27] (fun a27 wr => ∃ j : Nat, j ≤ l ∧ a27 = .int .i64 (j : Int) ∧ HeapAt wr hb X2 sz tm (n + 1 + 0 + l) (tagF f n (hOf k 0 l) r j) (also st n) ∧ Fr X2 w2 wr) (fun a27 _ => l - (intOf a27).toNat)
  case atStart => exact ⟨0, Nat.zero_le _, rfl, by rw [tagF_zero]; exact HH2.out, Fr.refl _ _⟩
  case round =>
    obtain ⟨j, hj, rfl, hH, hF⟩ := hrel
    have FW : Fr X w wr := Fr.trans HF2.out hF (fun k hk e => by
      rcases HG2.out k e with e | e
      · exact e
      · omega)
    have c0 := (FW.cell (o := 0) hsl hsX).trans hS
    by_cases hlt : j < l
    · obtain ⟨b, off, rfl, hbX, hc⟩ : ∃ b off, ao = some ⟨b, off, none⟩ ∧ ¬ X b ∧ ∀ i, i < l → w.cell? ⟨b, off + i, none⟩ = some (.int .u64 (r i)) := by
        rcases HR.out with e | e
        · omega
        · exact e
      have cx := (FW.cell (o := off + j) (World.block_lt_of_cell? _ _ (hc j hlt)) hbX).trans (hc j hlt)
      have hq : p / 4 = n := by have := HP.out; omega
      have hp4 : p % 4 = 0 := by have := HP.out; omega
      have KS := setRaw_yes wr hb X2 sz tm (n + 1 + 0 + l) (tagF f n (hOf k 0 l) r j) (also st n) p j (r j) hH hpl (HRL.out j hlt) (by unfold isPtr; rw [hq, also_new]; simp [hp4]) (by rw [hq, tagF_head, hRaw_of hk (by decide) (by omega)]; exact hlt)
      rw [hq, tagF_head, hTag_of hk (by decide), Nat.add_zero, tagF_succ] at KS
      have HKS := hide KS
      generalize r j = x at *
      have hjI : (j : Int) < (l : Int) := by omega
      have HF := hide hF
      clear KS hH hF hc FW hq hp4
      go_wp2_with (go_at_call 52; refine HKS.out.mono ?_; rintro e w3 ⟨rfl, H3, F3⟩)
      refine ⟨⟨j + 1, by omega, by go_num, H3, Fr.trans HF.out F3 (fun _ _ e => e)⟩, ?_⟩
      simp [intOf]
      omega
    · have hjl : l = j := by omega
      subst hjl
      have HH := hide hH
      have HFW := hide FW
      clear hH FW hF
      go_wp2
      go_ret2
      exact ⟨rfl, X2, HH.out, HG2.out, HFW.out⟩

end Go.Proofs.Ytchdfenickjiiaa
