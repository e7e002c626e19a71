/-
  What is proved here: the document's own heap in memory, and its calls that only read.
-/
import Derived.Test.YtfeofdeffmnbkaaHHeap6
namespace Go.Proofs.Ytfeofdeffmnbkaa
open Go Go.RowKit

/-- The document's own heap at the block rb: its words, and the places of its objects in a list, rising. -/
structure RefIn (w : World) (rb : Nat) (Y : Nat → Prop) (sz : Nat) (tm : Int) (n : Nat) (f : Nat → Nat) (st : Nat → Bool) (vW vH : Value) (hn : Nat) (hd : Nat → Nat) : Prop where
  blk : w.heap[rb]? = some (.cells #[.int .i64 (sz : Int), vW, vH, .int .i64 tm] 67 (0, 0))
  oW : Own .u64 33 w 0 vW n f
  oH : Own .i64 3 w 0 vH hn hd
  nW : vW.ownBlock ≠ some rb
  nH : vH.ownBlock ≠ some rb
  nn : ∀ g, vW.ownBlock = some g → vH.ownBlock ≠ some g
  inc : ∀ i j, i < j → j < hn → hd i < hd j
  heads : ∀ p, st p = true ↔ ∃ k, k < hn ∧ hd k = p
  good : Good n f st
  fb : ∀ i, i < n → f i < 18446744073709551616
  hnl : hn ≤ n
  nz : n ≤ sz
  z : sz ≤ 1048576
  xs : ∀ k, Y k ↔ (k = rb ∨ vW.ownBlock = some k ∨ vH.ownBlock = some k)

def RefAt (w : World) (rb : Nat) (Y : Nat → Prop) (sz : Nat) (tm : Int) (n : Nat) (f : Nat → Nat) (st : Nat → Bool) : Prop :=
  ∃ vW vH hn hd, RefIn w rb Y sz tm n f st vW vH hn hd

theorem RefIn.lt {w : World} {rb : Nat} {Y : Nat → Prop} {sz : Nat} {tm : Int} {n : Nat} {f : Nat → Nat} {st : Nat → Bool} {vW vH : Value} {hn : Nat} {hd : Nat → Nat} (h : RefIn w rb Y sz tm n f st vW vH hn hd) : rb < w.heap.size := (Array.getElem?_eq_some_iff.1 h.blk).1
theorem RefIn.fr {S : Nat → Prop} {w w2 : World} {rb : Nat} {Y : Nat → Prop} {sz : Nat} {tm : Int} {n : Nat} {f : Nat → Nat} {st : Nat → Bool} {vW vH : Value} {hn : Nat} {hd : Nat → Nat} (h : RefIn w rb Y sz tm n f st vW vH hn hd) (hf : Fr S w w2) (hs : ∀ k, Y k → ¬ S k) : RefIn w2 rb Y sz tm n f st vW vH hn hd :=
  ⟨(hf.block rb h.lt (hs rb ((h.xs rb).2 (.inl rfl)))).trans h.blk, h.oW.fr hf fun g hg => hs g ((h.xs g).2 (.inr (.inl hg))), h.oH.fr hf fun g hg => hs g ((h.xs g).2 (.inr (.inr hg))), h.nW, h.nH, h.nn, h.inc, h.heads, h.good, h.fb, h.hnl, h.nz, h.z, h.xs⟩
theorem RefAt.fr {S : Nat → Prop} {w w2 : World} {rb : Nat} {Y : Nat → Prop} {sz : Nat} {tm : Int} {n : Nat} {f : Nat → Nat} {st : Nat → Bool} (h : RefAt w rb Y sz tm n f st) (hf : Fr S w w2) (hs : ∀ k, Y k → ¬ S k) : RefAt w2 rb Y sz tm n f st := by
  obtain ⟨vW, vH, hn, hd, h⟩ := h
  exact ⟨vW, vH, hn, hd, h.fr hf hs⟩
theorem RefAt.drewN {w : World} {rb : Nat} {Y : Nat → Prop} {sz : Nat} {tm : Int} {n : Nat} {f : Nat → Nat} {st : Nat → Bool} (h : RefAt w rb Y sz tm n f st) (q : Nat) : RefAt (w.drewN q) rb Y sz tm n f st := h.fr (S := fun _ => False) ((Fr.refl _ _).drewN q) (fun _ _ e => e)
theorem RefAt.lt {w : World} {rb : Nat} {Y : Nat → Prop} {sz : Nat} {tm : Int} {n : Nat} {f : Nat → Nat} {st : Nat → Bool} (h : RefAt w rb Y sz tm n f st) {k : Nat} (hk : Y k) : k < w.heap.size := by
  obtain ⟨vW, vH, hn, hd, h⟩ := h
  rcases (h.xs k).1 hk with e | e | e
  · rw [e]; exact h.lt
  · exact h.oW.block_lt e
  · exact h.oH.block_lt e
theorem RefIn.cells {w : World} {rb : Nat} {Y : Nat → Prop} {sz : Nat} {tm : Int} {n : Nat} {f : Nat → Nat} {st : Nat → Bool} {vW vH : Value} {hn : Nat} {hd : Nat → Nat} (h : RefIn w rb Y sz tm n f st vW vH hn hd) : w.cell? ⟨rb, 0, none⟩ = some (.int .i64 (sz : Int)) ∧ w.cell? ⟨rb, 1, none⟩ = some vW ∧ w.cell? ⟨rb, 2, none⟩ = some vH ∧ w.cell? ⟨rb, 3, none⟩ = some (.int .i64 tm) := by
  refine ⟨?_, ?_, ?_, ?_⟩
  all_goals
    rw [cell_of_row w rb _ _ _ _ h.blk]
    rfl

set_option maxHeartbeats 1000000 in
theorem find_any (w : World) (rb : Nat) (Y : Nat → Prop) (sz : Nat) (tm : Int) (n : Nat) (f : Nat → Nat) (st : Nat → Bool) (vW vH : Value) (hn : Nat) (hd : Nat → Nat) (h : RefIn w rb Y sz tm n f st vW vH hn hd) (at_ : Nat) (_hat : at_ ≤ 4611686018427387904) :
    Calls Try.prog 64 #[.pointer (some ⟨rb, 0, none⟩), .int .i64 (at_ : Int)] w fun e w' => ∃ z : Int, e = .returned (.int .i64 z) ∧ w' = w ∧ ((∃ k : Nat, z = (k : Int) ∧ k < hn ∧ hd k = at_) ∨ (z = -1 ∧ ∀ k, k < hn → hd k ≠ at_)) := by
  have hc := h.cells.2.2.1
  have hnl := h.hnl
  have hnz := h.nz
  have hz := h.z
  have hcell : ∀ k, k < hn → ∃ g cap, vH = .slice (some ⟨g, 0, none⟩) hn cap ∧ hn ≤ cap ∧ cap ≤ 9223372036854775807 ∧ w.cell? ⟨g, k, none⟩ = some (.int .i64 (hd k : Int)) := fun k hk => h.oH.rd hk
  obtain ⟨ao, cap, rfl⟩ := h.oH.shape
  have HC := hide hcell
  have HI := hide h.inc
  clear hcell h
  go_enter Try.func64, Try.ntmps64
  go_wp2
  go_loop [5, 6] (fun a b => ∃ lo hi : Nat, a = .int .i64 (lo : Int) ∧ b = .int .i64 (hi : Int) ∧ lo ≤ hi ∧ hi ≤ hn ∧ (∀ k, k < lo → hd k < at_) ∧ (∀ k, hi ≤ k → k < hn → at_ ≤ hd k)) (fun a b => (intOf b - intOf a).toNat)
  case atStart => exact ⟨0, hn, rfl, rfl, Nat.zero_le _, Nat.le_refl _, fun k hk => by omega, fun k h1 h2 => by omega⟩
  case round =>
    obtain ⟨lo, hi, rfl, rfl, hle, hhn, hlo, hhi⟩ := hrel
    by_cases hlt : lo < hi
    · obtain ⟨mid, hm1, hm2, hmI⟩ : ∃ mid : Nat, lo ≤ mid ∧ mid < hi ∧ ((lo : Int) + (hi : Int)) / 2 = (mid : Int) := ⟨(lo + hi) / 2, by omega, by omega, by omega⟩
      obtain ⟨g, cap', e, hc1, hc2, hcl⟩ := HC.out mid (by omega)
      cases e
      have HLO := hide hlo
      have HHI := hide hhi
      clear hlo hhi
      by_cases hcmp : hd mid < at_
      · go_wp2
        go_round
        case rel => exact ⟨mid + 1, hi, by go_num, rfl, by omega, hhn, fun k hk => by
          by_cases e : k = mid
          · rw [e]; exact hcmp
          · have := HI.out k mid (by omega) (by omega)
            omega, HHI.out⟩
        case measure => simp [intOf]; omega
      · go_wp2
        go_round
        case rel => exact ⟨lo, mid, rfl, by first | rfl | rw [hmI], hm1, by omega, HLO.out, fun k h1 h2 => by
          by_cases e : k = mid
          · rw [e]; omega
          · have := HI.out mid k (by omega) h2
            omega⟩
        case measure => simp [intOf]; omega
    · have he : lo = hi := by omega
      subst he
      by_cases hl : lo < hn
      · obtain ⟨g, cap', e, hc1, hc2, hcl⟩ := HC.out lo hl
        cases e
        have HLO := hide hlo
        have HHI := hide hhi
        clear hlo hhi
        by_cases hcmp : hd lo = at_
        · go_wp2
          go_ret
          exact ⟨_, rfl, rfl, .inl ⟨lo, rfl, hl, hcmp⟩⟩
        · go_wp2
          go_ret
          refine ⟨_, rfl, rfl, .inr ⟨rfl, fun k hk e => ?_⟩⟩
          rcases Nat.lt_trichotomy k lo with c | c | c
          · have := HLO.out k c; omega
          · rw [c] at e; exact hcmp e
          · have h1 := HHI.out lo (Nat.le_refl _) hl
            have h2 := HI.out lo k c hk
            omega
      · go_wp2
        go_ret
        exact ⟨_, rfl, rfl, .inr ⟨rfl, fun k hk e => by have := hlo k (by omega); omega⟩⟩

theorem ris_any (w : World) (rb : Nat) (Y : Nat → Prop) (sz : Nat) (tm : Int) (n : Nat) (f : Nat → Nat) (st : Nat → Bool) (x : Nat) (h : RefAt w rb Y sz tm n f st) (hx : x < 18446744073709551616) :
    Calls Try.prog 42 #[.pointer (some ⟨rb, 0, none⟩), .int .u64 (x : Int)] w fun e w' => e = .returned (.bool (isPtr st x)) ∧ w' = w := by
  obtain ⟨vW, vH, hn, hd, h⟩ := h
  have hc := h.cells.2.1
  have hnz := h.nz
  have hz := h.z
  have KF := find_any w rb Y sz tm n f st vW vH hn hd h (x / 4) (by omega)
  obtain ⟨ao, cap, rfl⟩ := h.oW.shape
  by_cases h4 : x % 4 = 0
  · by_cases hlt : x / 4 < n
    · cases hc2 : st (x / 4) with
      | true =>
        have hp : isPtr st x = true := by unfold isPtr; rw [hc2]; simp [h4]
        obtain ⟨k0, hk0, hkE⟩ := (h.heads _).1 hc2
        have HKD := hide (⟨hk0, hkE⟩ : k0 < hn ∧ hd k0 = x / 4)
        rw [hp]
        clear h
        go_enter Try.func42, Try.ntmps42
        go_wp2_with (go_at_call 64; refine KF.mono ?_; rintro e w' ⟨z, rfl, rfl, hz2⟩; have hz0 : 0 ≤ z := (by rcases hz2 with ⟨k, rfl, _, _⟩ | ⟨_, hno⟩; exact Int.natCast_nonneg k; exact absurd HKD.out.2 (hno k0 HKD.out.1)); clear hz2)
        go_ret
        exact ⟨rfl, rfl⟩
      | false =>
        have hp : isPtr st x = false := by unfold isPtr; rw [hc2]; simp
        have hno : Hid (∀ k, k < hn → hd k ≠ x / 4) := hide fun k hk e => by
          have := (h.heads (x / 4)).2 ⟨k, hk, e⟩
          rw [hc2] at this
          cases this
        rw [hp]
        clear h
        go_enter Try.func42, Try.ntmps42
        go_wp2_with (go_at_call 64; refine KF.mono ?_; rintro e w' ⟨z, rfl, rfl, hz2⟩; have hz0 : z < 0 := (by rcases hz2 with ⟨k, _, e1, e2⟩ | ⟨rfl, _⟩; exact absurd e2 (hno.out k e1); decide); clear hz2)
        go_ret
        refine ⟨?_, rfl⟩
        first | rfl | (simp; omega)
    · have hp : isPtr st x = false := by
        unfold isPtr
        cases hc2 : st (x / 4) with
        | true => have := h.good.lt hc2; omega
        | false => simp
      rw [hp]
      clear KF h
      go_enter Try.func42, Try.ntmps42
      go_wp2
      go_ret
      exact ⟨rfl, rfl⟩
  · have hp : isPtr st x = false := by unfold isPtr; simp [h4]
    have h4I : (((x : Int) % 4) == 0) = false := by rw [beq_eq_false_iff_ne]; omega
    rw [hp]
    clear KF h
    go_enter Try.func42, Try.ntmps42
    go_wp2
    go_ret
    exact ⟨rfl, rfl⟩

end Go.Proofs.Ytfeofdeffmnbkaa
