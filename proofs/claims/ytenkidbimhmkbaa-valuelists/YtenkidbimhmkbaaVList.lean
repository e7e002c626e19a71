/-
  What is proved here: package value's List, Vector and Text: where there is room, and where there is none.
-/
import Derived.Test.YtenkidbimhmkbaaVChain
import Derived.Test.YtenkidbimhmkbaaVText2
namespace Go.Proofs.Ytenkidbimhmkbaa
open Go Go.RowKit

theorem WordsV.rd {w : World} {ao : Option Addr} {lv cv b off l : Nat} {r : Nat → Nat} (h : WordsV w (.slice ao lv cv) b off l r) : lv = l ∧ Rd .u64 w ao l r := by
  rcases h with ⟨a, c, e1, e2⟩ | ⟨c, e1, e2, e3, e4⟩
  · cases e1; exact ⟨e2.symm, .inl e2⟩
  · cases e1; exact ⟨rfl, .inr ⟨b, off, rfl, e4⟩⟩

set_option maxRecDepth 20000 in
set_option maxHeartbeats 2000000 in
theorem list_yes (w : World) (sb hb : Nat) (X : Nat → Prop) (sz : Nat) (tm : Int) (n : Nat) (f : Nat → Nat) (st : Nat → Bool) (ao : Option Addr) (cv b off l : Nat) (r : Nat → Nat) (h : HeapAt w hb X sz tm n f st) (hS : w.cell? ⟨sb, 0, none⟩ = some (.pointer (some ⟨hb, 0, none⟩))) (hsX : ¬ X sb)
    (hv : WordsV w (.slice ao l cv) b off l r) (hbX : ¬ X b) (hr : ∀ i, r i < 18446744073709551616) (hm : ∀ i, may st (r i) = true) (hroom : n + 3 * l ≤ sz) :
    Calls Try.prog 31 #[.pointer (some ⟨sb, 0, none⟩), .slice ao l cv] w fun e w' => e = .returned (.tuple #[.int .u64 (chainE n 10 l : Int), .bool true]) ∧ ∃ X2, HeapAt w' hb X2 sz tm (n + 3 * l) (chainF f n 10 (fun k => r (l - 1 - k)) l) (chainSt st n l) ∧ Grows w.heap.size X X2 ∧ Fr X w w' := by
  have hz := h.good.2.2
  have hsl : sb < w.heap.size := World.block_lt_of_cell? _ _ hS
  have KR := room_any w sb hb X sz tm n f st h hS
  have KM := fun q => maySet_yes (w.drewN q) sb hb X sz tm n f st ao l cv r (h.drewN q) hS hv.rd.2 (by omega) (fun i _ => hr i) (fun i _ => hm i)
  have KC := fun q => chain_yes (w.drewN q) sb hb X sz tm n f st 10 (.slice ao l cv) b off l r (h.drewN q) hS hsX hv hbX hr hm (by decide) (by simp [may]) hroom
  generalize chainE n 10 l = ev at *
  have hq : ((sz : Int) - (n : Int)).tdiv 3 = (((sz - n) / 3 : Nat) : Int) := by rw [Int.tdiv_eq_ediv_of_nonneg (by omega)]; omega
  obtain ⟨R, hR⟩ : ∃ R, R = (sz - n) / 3 := ⟨_, rfl⟩
  rw [← hR] at hq
  have hlt : ¬ ((R : Int) < (l : Int)) := by omega
  have hRl : R ≤ 1048576 := by omega
  have HR := hide KR
  have HM := hide KM
  have HC := hide KC
  clear KR KM KC h hv hr hm hR
  go_enter Try.func31, Try.ntmps31
  go_wp2_with (first
    | (go_at_call 48; refine HR.out.mono ?_; rintro e w1 ⟨rfl, q1, rfl⟩)
    | (go_at_call 73; refine (HM.out _).mono ?_; rintro e w2 ⟨rfl, q2, hq2⟩; replace hq2 : w2 = w.drewN (q1 + q2) := (by rw [hq2]; simp); subst hq2)
    | (go_at_call 74; refine (HC.out _).mono ?_; rintro e w3 ⟨rfl, X3, H3, G3, F3⟩; have HH3 := hide H3; have HG3 := hide G3; have HF3 := hide F3; clear H3 G3 F3))
  go_ret2
  exact ⟨rfl, X3, HH3.out, HG3.out, Fr.trans ((Fr.refl _ w).drewN _) HF3.out (fun _ _ e => e)⟩

set_option maxRecDepth 20000 in
set_option maxHeartbeats 2000000 in
theorem list_full (w : World) (sb hb : Nat) (X : Nat → Prop) (sz : Nat) (tm : Int) (n : Nat) (f : Nat → Nat) (st : Nat → Bool) (ao : Option Addr) (cv l : Nat) (h : HeapAt w hb X sz tm n f st) (hS : w.cell? ⟨sb, 0, none⟩ = some (.pointer (some ⟨hb, 0, none⟩))) (hroom : sz < n + 3 * l) :
    Calls Try.prog 31 #[.pointer (some ⟨sb, 0, none⟩), .slice ao l cv] w fun e w' => e = .returned (.tuple #[.int .u64 0, .bool false]) ∧ ∃ q, w' = w.drewN q := by
  have hz := h.good.2.2
  have KR := room_any w sb hb X sz tm n f st h hS
  have hq : ((sz : Int) - (n : Int)).tdiv 3 = (((sz - n) / 3 : Nat) : Int) := by rw [Int.tdiv_eq_ediv_of_nonneg (by omega)]; omega
  obtain ⟨R, hR⟩ : ∃ R, R = (sz - n) / 3 := ⟨_, rfl⟩
  rw [← hR] at hq
  have hlt : (R : Int) < (l : Int) := by omega
  have hRl : R ≤ 1048576 := by omega
  clear h hR
  go_enter Try.func31, Try.ntmps31
  go_wp2_with (go_at_call 48; refine KR.mono ?_; rintro e w1 ⟨rfl, q1, rfl⟩)
  go_ret2
  exact ⟨rfl, _, rfl⟩

theorem alloc_no (w : World) (hb : Nat) (X : Nat → Prop) (sz : Nat) (tm : Int) (n : Nat) (f : Nat → Nat) (st : Nat → Bool) (k t r : Nat) (h : HeapAt w hb X sz tm n f st) (hk1 : 1 ≤ k) (hk : k ≤ 63) (hfull : sz < n + 1 + t + r) :
    Calls Try.prog 51 #[.pointer (some ⟨hb, 0, none⟩), .int .i64 (k : Int), .int .i64 (t : Int), .int .i64 (r : Int)] w fun e w' => e = .returned (.tuple #[.int .u64 0, .bool false]) ∧ ∃ q, w' = w.drewN q := by
  by_cases ht : t ≤ 1048576
  · by_cases hr : r ≤ 1048576
    · exact alloc_full w hb X sz tm n f st k t r h hk1 hk ht hr hfull
    · exact alloc_bad w hb X sz tm n f st k t r h (by omega)
  · exact alloc_bad w hb X sz tm n f st k t r h (by omega)

set_option maxRecDepth 20000 in
set_option maxHeartbeats 2000000 in
theorem vector_yes (w : World) (sb hb : Nat) (X : Nat → Prop) (sz : Nat) (tm : Int) (n : Nat) (f : Nat → Nat) (st : Nat → Bool) (ao : Option Addr) (cv b off l : Nat) (r : Nat → Nat) (h : HeapAt w hb X sz tm n f st) (hS : w.cell? ⟨sb, 0, none⟩ = some (.pointer (some ⟨hb, 0, none⟩))) (hsX : ¬ X sb)
    (hv : WordsV w (.slice ao l cv) b off l r) (hbX : ¬ X b) (hr : ∀ i, r i < 18446744073709551616) (hm : ∀ i, may st (r i) = true) (hroom : n + 1 + l + 0 ≤ sz) :
    Calls Try.prog 32 #[.pointer (some ⟨sb, 0, none⟩), .slice ao l cv] w fun e w' => e = .returned (.tuple #[.int .u64 ((4 * n : Nat) : Int), .bool true]) ∧ ∃ X2, HeapAt w' hb X2 sz tm (n + 1 + l + 0) (tagF f n (hOf 2 l 0) r l) (also st n) ∧ Grows w.heap.size X X2 ∧ Fr X w w' := by
  have K := layTagged_yes w sb hb X sz tm n f st 2 ao l cv r h hS hsX (by
    rcases hv.rd.2 with e | ⟨b', off', e1, e2⟩
    · exact .inl e
    · rcases hv with ⟨a, c, e3, e4⟩ | ⟨c, e3, _, _, e5⟩
      · exact .inl e4
      · cases e3
        exact .inr ⟨b, off, rfl, hbX, e5⟩) (fun i _ => hr i) (fun i _ => hm i) (by decide) (by decide) hroom
  obtain ⟨p, hp⟩ : ∃ p, p = 4 * n := ⟨_, rfl⟩
  rw [← hp] at K ⊢
  have HK := hide K
  clear K h hv hp
  go_enter Try.func32, Try.ntmps32
  go_wp2_with (go_at_call 49; refine HK.out.mono ?_; rintro e w2 ⟨rfl, X2, H2, G2, F2⟩; have HH2 := hide H2; have HG2 := hide G2; have HF2 := hide F2; clear H2 G2 F2)
  go_ret2
  exact ⟨rfl, X2, HH2.out, HG2.out, HF2.out⟩

set_option maxRecDepth 20000 in
set_option maxHeartbeats 2000000 in
theorem vector_full (w : World) (sb hb : Nat) (X : Nat → Prop) (sz : Nat) (tm : Int) (n : Nat) (f : Nat → Nat) (st : Nat → Bool) (ao : Option Addr) (cv b off l : Nat) (r : Nat → Nat) (h : HeapAt w hb X sz tm n f st) (hS : w.cell? ⟨sb, 0, none⟩ = some (.pointer (some ⟨hb, 0, none⟩)))
    (hv : WordsV w (.slice ao l cv) b off l r) (hl : l ≤ 17592186044416) (hr : ∀ i, r i < 18446744073709551616) (hm : ∀ i, may st (r i) = true) (hroom : sz < n + 1 + l + 0) :
    Calls Try.prog 32 #[.pointer (some ⟨sb, 0, none⟩), .slice ao l cv] w fun e w' => e = .returned (.tuple #[.int .u64 0, .bool false]) ∧ ∃ q, w' = w.drewN q := by
  have KM := maySet_yes w sb hb X sz tm n f st ao l cv r h hS hv.rd.2 hl (fun i _ => hr i) (fun i _ => hm i)
  have KA := fun q => alloc_no (w.drewN q) hb X sz tm n f st 2 l 0 (h.drewN q) (by decide) (by decide) hroom
  have KT : Calls Try.prog 49 #[.pointer (some ⟨sb, 0, none⟩), .int .i64 2, .slice ao l cv] w fun e w' => e = .returned (.tuple #[.int .u64 0, .bool false]) ∧ ∃ q, w' = w.drewN q := by
    have HM := hide KM
    have HA := hide KA
    clear KM KA h hv hr hm hroom
    go_enter Try.func49, Try.ntmps49
    go_wp2_with (first
      | (go_at_call 73; refine HM.out.mono ?_; rintro e w1 ⟨rfl, q1, rfl⟩)
      | (go_at_call 51; refine (HA.out _).mono ?_; rintro e w2 ⟨rfl, q2, hq2⟩; replace hq2 : w2 = w.drewN (q1 + q2) := (by rw [hq2]; simp); subst hq2))
    go_ret2
    exact ⟨rfl, _, rfl⟩
  clear KM KA h hv hr hm hroom
  go_enter Try.func32, Try.ntmps32
  go_wp2_with (go_at_call 49; refine KT.mono ?_; rintro e w2 ⟨rfl, q2, rfl⟩)
  go_ret2
  exact ⟨rfl, _, rfl⟩

end Go.Proofs.Ytenkidbimhmkbaa
