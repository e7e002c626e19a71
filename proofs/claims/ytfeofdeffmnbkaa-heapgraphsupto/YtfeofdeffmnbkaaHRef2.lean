/-
  What is proved here: the document's own heap: what objects are, and their fields.
-/
import Derived.Test.YtfeofdeffmnbkaaHRef
namespace Go.Proofs.Ytfeofdeffmnbkaa
open Go Go.RowKit

theorem RefAt.good {w : World} {rb : Nat} {Y : Nat → Prop} {sz : Nat} {tm : Int} {n : Nat} {f : Nat → Nat} {st : Nat → Bool} (h : RefAt w rb Y sz tm n f st) : Good n f st ∧ (∀ i, i < n → f i < 18446744073709551616) ∧ n ≤ sz ∧ sz ≤ 1048576 := by
  obtain ⟨vW, vH, hn, hd, h⟩ := h
  exact ⟨h.good, h.fb, h.nz, h.z⟩
theorem headOf_lt {n : Nat} {f : Nat → Nat} {st : Nat → Bool} (hg : Good n f st) (hfb : ∀ i, i < n → f i < 18446744073709551616) (x : Nat) : headOf f st x < 18446744073709551616 := by
  unfold headOf
  split
  · exact hfb _ (hg.lt (isPtr_st ‹_›).1)
  · decide

theorem rhead_any (w : World) (rb : Nat) (Y : Nat → Prop) (sz : Nat) (tm : Int) (n : Nat) (f : Nat → Nat) (st : Nat → Bool) (x : Nat) (h : RefAt w rb Y sz tm n f st) (hx : x < 18446744073709551616) :
    Calls Try.prog 65 #[.pointer (some ⟨rb, 0, none⟩), .int .u64 (x : Int)] w fun e w' => e = .returned (.int .u64 (headOf f st x : Int)) ∧ w' = w := by
  have KI := ris_any w rb Y sz tm n f st x h hx
  cases hc : isPtr st x with
  | true =>
    rw [hc] at KI
    rw [headOf_yes hc]
    obtain ⟨vW, vH, hn, hd, h⟩ := h
    have hlt := h.good.lt (isPtr_st hc).1
    have hcW := h.cells.2.1
    obtain ⟨g, cap, rfl, hc1, hc2, hcl⟩ := h.oW.rd hlt
    clear h
    go_enter Try.func65, Try.ntmps65
    go_wp2_with (go_at_call 42; refine KI.mono ?_; rintro e w' ⟨rfl, hw⟩; replace hw := hw.symm; subst hw)
    go_ret
    exact ⟨rfl, rfl⟩
  | false =>
    rw [hc] at KI
    rw [headOf_no hc]
    go_enter Try.func65, Try.ntmps65
    go_wp2_with (go_at_call 42; refine KI.mono ?_; rintro e w' ⟨rfl, hw⟩; replace hw := hw.symm; subst hw)
    go_ret
    exact ⟨rfl, rfl⟩

theorem rKind_any (w : World) (rb : Nat) (Y : Nat → Prop) (sz : Nat) (tm : Int) (n : Nat) (f : Nat → Nat) (st : Nat → Bool) (x : Nat) (h : RefAt w rb Y sz tm n f st) (hx : x < 18446744073709551616) :
    Calls Try.prog 43 #[.pointer (some ⟨rb, 0, none⟩), .int .u64 (x : Int)] w fun e w' => e = .returned (.int .i64 (hKind (headOf f st x) : Int)) ∧ w' = w := by
  have KH := rhead_any w rb Y sz tm n f st x h hx
  have hl := headOf_lt h.good.1 h.good.2.1 x
  generalize headOf f st x = y at *
  go_enter Try.func43, Try.ntmps43
  go_wp2_with (go_at_call 65; refine KH.mono ?_; rintro e w' ⟨rfl, hw⟩; replace hw := hw.symm; subst hw)
  go_ret
  refine ⟨retI ?_, rfl⟩
  unfold hKind
  first | omega | (rw [wrap64_id (by omega) (by omega)]; omega) | (simp; omega)

theorem rTagged_any (w : World) (rb : Nat) (Y : Nat → Prop) (sz : Nat) (tm : Int) (n : Nat) (f : Nat → Nat) (st : Nat → Bool) (x : Nat) (h : RefAt w rb Y sz tm n f st) (hx : x < 18446744073709551616) :
    Calls Try.prog 44 #[.pointer (some ⟨rb, 0, none⟩), .int .u64 (x : Int)] w fun e w' => e = .returned (.int .i64 (hTag (headOf f st x) : Int)) ∧ w' = w := by
  have KH := rhead_any w rb Y sz tm n f st x h hx
  have hl := headOf_lt h.good.1 h.good.2.1 x
  generalize headOf f st x = y at *
  go_enter Try.func44, Try.ntmps44
  go_wp2_with (go_at_call 65; refine KH.mono ?_; rintro e w' ⟨rfl, hw⟩; replace hw := hw.symm; subst hw)
  go_ret
  refine ⟨retI ?_, rfl⟩
  unfold hTag
  first | omega | (rw [wrap64_id (by omega) (by omega)]; omega) | (simp; omega)

theorem rRaws_any (w : World) (rb : Nat) (Y : Nat → Prop) (sz : Nat) (tm : Int) (n : Nat) (f : Nat → Nat) (st : Nat → Bool) (x : Nat) (h : RefAt w rb Y sz tm n f st) (hx : x < 18446744073709551616) :
    Calls Try.prog 45 #[.pointer (some ⟨rb, 0, none⟩), .int .u64 (x : Int)] w fun e w' => e = .returned (.int .i64 (hRaw (headOf f st x) : Int)) ∧ w' = w := by
  have KH := rhead_any w rb Y sz tm n f st x h hx
  have hl := headOf_lt h.good.1 h.good.2.1 x
  generalize headOf f st x = y at *
  go_enter Try.func45, Try.ntmps45
  go_wp2_with (go_at_call 65; refine KH.mono ?_; rintro e w' ⟨rfl, hw⟩; replace hw := hw.symm; subst hw)
  go_ret
  refine ⟨retI ?_, rfl⟩
  unfold hRaw
  first | omega | (rw [wrap64_id (by omega) (by omega)]; omega) | (simp; omega)

theorem rget_out (w : World) (rb : Nat) (Y : Nat → Prop) (sz : Nat) (tm : Int) (n : Nat) (f : Nat → Nat) (st : Nat → Bool) (x : Nat) (j : Int) (h : RefAt w rb Y sz tm n f st) (hx : x < 18446744073709551616) (hj : j < 0 ∨ (hTag (headOf f st x) : Int) ≤ j) :
    Calls Try.prog 39 #[.pointer (some ⟨rb, 0, none⟩), .int .u64 (x : Int), .int .i64 j] w fun e w' => e = .returned (.tuple #[.int .u64 0, .bool false]) ∧ w' = w := by
  have KT := rTagged_any w rb Y sz tm n f st x h hx
  generalize hTag (headOf f st x) = y at *
  by_cases h0 : j < 0
  · clear hj
    go_enter Try.func39, Try.ntmps39
    go_wp2
    go_ret2
    exact ⟨rfl, rfl⟩
  · have hj' : (y : Int) ≤ j := by omega
    clear hj
    go_enter Try.func39, Try.ntmps39
    go_wp2_with (go_at_call 44; refine KT.mono ?_; rintro e w' ⟨rfl, hw⟩; replace hw := hw.symm; subst hw)
    go_ret2
    exact ⟨rfl, rfl⟩

theorem rget_in (w : World) (rb : Nat) (Y : Nat → Prop) (sz : Nat) (tm : Int) (n : Nat) (f : Nat → Nat) (st : Nat → Bool) (x j : Nat) (h : RefAt w rb Y sz tm n f st) (hx : x < 18446744073709551616) (hc : isPtr st x = true) (hj : j < hTag (f (x / 4))) :
    Calls Try.prog 39 #[.pointer (some ⟨rb, 0, none⟩), .int .u64 (x : Int), .int .i64 (j : Int)] w fun e w' => e = .returned (.tuple #[.int .u64 (f (x / 4 + 1 + j) : Int), .bool true]) ∧ w' = w := by
  have KT := rTagged_any w rb Y sz tm n f st x h hx
  have KG := rTagged_any w rb Y sz tm n f st x h hx
  rw [headOf_yes hc] at KT KG
  obtain ⟨vW, vH, hn, hd, h⟩ := h
  have hin := (h.good.inn _ (isPtr_st hc).1).2
  have hz := h.z
  have hnz := h.nz
  have hL : hLen (f (x / 4)) = 1 + hTag (f (x / 4)) + hRaw (f (x / 4)) := rfl
  have hin2 : x / 4 + 1 + j < n := by omega
  have hT := hTag_lt (f (x / 4))
  have hcW := h.cells.2.1
  obtain ⟨g, cap, rfl, hc1, hc2, hcl⟩ := h.oW.rd hin2
  obtain ⟨p, hpE, hpI⟩ : ∃ p : Nat, p = x / 4 ∧ (x : Int) / 4 = (p : Int) := ⟨_, rfl, by omega⟩
  rw [← hpE] at KT KG hj hin2 hcl hT ⊢
  clear h hL hin hpE
  go_enter Try.func39, Try.ntmps39
  go_wp2_with (go_at_call 44; refine KT.mono ?_; rintro e w' ⟨rfl, hw⟩; replace hw := hw.symm; subst hw)
  go_ret2
  exact ⟨rfl, rfl⟩

theorem rraw_out (w : World) (rb : Nat) (Y : Nat → Prop) (sz : Nat) (tm : Int) (n : Nat) (f : Nat → Nat) (st : Nat → Bool) (x : Nat) (j : Int) (h : RefAt w rb Y sz tm n f st) (hx : x < 18446744073709551616) (hj : j < 0 ∨ (hRaw (headOf f st x) : Int) ≤ j) :
    Calls Try.prog 40 #[.pointer (some ⟨rb, 0, none⟩), .int .u64 (x : Int), .int .i64 j] w fun e w' => e = .returned (.tuple #[.int .u64 0, .bool false]) ∧ w' = w := by
  have KT := rRaws_any w rb Y sz tm n f st x h hx
  generalize hRaw (headOf f st x) = y at *
  by_cases h0 : j < 0
  · clear hj
    go_enter Try.func40, Try.ntmps40
    go_wp2
    go_ret2
    exact ⟨rfl, rfl⟩
  · have hj' : (y : Int) ≤ j := by omega
    clear hj
    go_enter Try.func40, Try.ntmps40
    go_wp2_with (go_at_call 45; refine KT.mono ?_; rintro e w' ⟨rfl, hw⟩; replace hw := hw.symm; subst hw)
    go_ret2
    exact ⟨rfl, rfl⟩

theorem rraw_in (w : World) (rb : Nat) (Y : Nat → Prop) (sz : Nat) (tm : Int) (n : Nat) (f : Nat → Nat) (st : Nat → Bool) (x j : Nat) (h : RefAt w rb Y sz tm n f st) (hx : x < 18446744073709551616) (hc : isPtr st x = true) (hj : j < hRaw (f (x / 4))) :
    Calls Try.prog 40 #[.pointer (some ⟨rb, 0, none⟩), .int .u64 (x : Int), .int .i64 (j : Int)] w fun e w' => e = .returned (.tuple #[.int .u64 (f (x / 4 + 1 + hTag (f (x / 4)) + j) : Int), .bool true]) ∧ ∃ q, w' = w.drewN q := by
  have KT := rRaws_any w rb Y sz tm n f st x h hx
  have KG := fun q => rTagged_any (w.drewN q) rb Y sz tm n f st x (h.drewN q) hx
  rw [headOf_yes hc] at KT KG
  obtain ⟨vW, vH, hn, hd, h⟩ := h
  have hin := (h.good.inn _ (isPtr_st hc).1).2
  have hz := h.z
  have hnz := h.nz
  have hL : hLen (f (x / 4)) = 1 + hTag (f (x / 4)) + hRaw (f (x / 4)) := rfl
  have hin2 : x / 4 + 1 + hTag (f (x / 4)) + j < n := by omega
  have hT := hTag_lt (f (x / 4))
  have hcW := h.cells.2.1
  obtain ⟨g, cap, rfl, hc1, hc2, hcl⟩ := h.oW.rd hin2
  obtain ⟨p, hpE, hpI⟩ : ∃ p : Nat, p = x / 4 ∧ (x : Int) / 4 = (p : Int) := ⟨_, rfl, by omega⟩
  rw [← hpE] at KT KG hj hin2 hcl hT ⊢
  clear h hL hin hpE
  go_enter Try.func40, Try.ntmps40
  have hjI : (j : Int) < (hRaw (f p) : Int) := by omega
  go_wp2_with (go_at_call 45; refine KT.mono ?_; rintro e w' ⟨rfl, hw⟩; replace hw := hw.symm; subst hw)
  go_quiet ((go_at_call 44; exact Calls.quiet_of_same (KG _)))
  go_wp2
  go_ret2
  exact ⟨rfl, _, rfl⟩

theorem rmay_any (w : World) (rb : Nat) (Y : Nat → Prop) (sz : Nat) (tm : Int) (n : Nat) (f : Nat → Nat) (st : Nat → Bool) (x : Nat) (h : RefAt w rb Y sz tm n f st) (hx : x < 18446744073709551616) :
    Calls Try.prog 62 #[.pointer (some ⟨rb, 0, none⟩), .int .u64 (x : Int)] w fun e w' => e = .returned (.bool (may st x)) ∧ w' = w := by
  have KI := ris_any w rb Y sz tm n f st x h hx
  rcases (show x % 4 = 0 ∨ x % 4 = 1 ∨ x % 4 = 2 ∨ x % 4 = 3 by omega) with h4 | h4 | h4 | h4
  · have h4I : (x : Int) % 4 = 0 := by omega
    rw [may_0 h4]
    go_enter Try.func62, Try.ntmps62
    go_wp2_with (go_at_call 42; refine KI.mono ?_; rintro e w' ⟨rfl, hw⟩; replace hw := hw.symm; subst hw)
    go_ret
    exact ⟨rfl, rfl⟩
  · have h4I : (x : Int) % 4 = 1 := by omega
    rw [may_1 (by omega) (by omega)]
    go_enter Try.func62, Try.ntmps62
    go_wp2_with (go_at_call 42; refine KI.mono ?_; rintro e w' ⟨rfl, hw⟩; replace hw := hw.symm; subst hw)
    go_ret
    exact ⟨rfl, rfl⟩
  · have h4I : (x : Int) % 4 = 2 := by omega
    rw [may_1 (by omega) (by omega)]
    go_enter Try.func62, Try.ntmps62
    go_wp2_with (go_at_call 42; refine KI.mono ?_; rintro e w' ⟨rfl, hw⟩; replace hw := hw.symm; subst hw)
    go_ret
    exact ⟨rfl, rfl⟩
  · have h4I : (x : Int) % 4 = 3 := by omega
    have hp : isPtr st x = false := by unfold isPtr; simp [h4]
    rw [hp] at KI
    rw [may_3 h4]
    go_enter Try.func62, Try.ntmps62
    go_wp2_with (go_at_call 42; refine KI.mono ?_; rintro e w' ⟨rfl, hw⟩; replace hw := hw.symm; subst hw)
    go_ret
    exact ⟨rfl, rfl⟩

end Go.Proofs.Ytfeofdeffmnbkaa
