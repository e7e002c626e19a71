/-
  What is proved here: the document's own heap: fields are set.
-/
import Derived.Test.YtfeofdeffmnbkaaHRef2
import Derived.Deep.RegionWith
namespace Go.Proofs.Ytfeofdeffmnbkaa
open Go Go.RowKit

/-- A word of an object's field is set. -/
theorem RefIn.put {w : World} {rb : Nat} {Y : Nat → Prop} {sz : Nat} {tm : Int} {n : Nat} {f : Nat → Nat} {st : Nat → Bool} {vH : Value} {hn : Nat} {hd : Nat → Nat} {g cap : Nat} (h : RefIn w rb Y sz tm n f st (.slice (some ⟨g, 0, none⟩) n cap) vH hn hd) {j y : Nat} (hj : j < n) (hst : st j = false) (hy : y < 18446744073709551616) :
    w.cell? ⟨g, j, none⟩ = some (.int .u64 (f j)) ∧ w.frozen? ⟨g, j, none⟩ = false ∧ RefIn (w.setCell ⟨g, j, none⟩ (.int .u64 y)) rb Y sz tm n (upd f j y) st (.slice (some ⟨g, 0, none⟩) n cap) vH hn hd ∧ Fr Y w (w.setCell ⟨g, j, none⟩ (.int .u64 y)) := by
  have hY : Y g := (h.xs g).2 (.inr (.inl rfl))
  have hfr : Fr (fun k => k = g) w (w.setCell ⟨g, j, none⟩ (.int .u64 y)) := Fr.setCell (S := fun k => k = g) (Fr.refl _ _) (fun _ => rfl) _ _
  have hrow : RowAt .u64 33 w g cap n f := by
    rcases h.oW with ⟨e, _⟩ | ⟨g', cap', e, _, _, h3⟩
    · cases e
    · cases e; exact h3
  have hcap : cap ≤ 9223372036854775807 := by
    rcases h.oW with ⟨e, _⟩ | ⟨g', cap', e, _, h2, _⟩
    · cases e
    · cases e; exact h2
  refine ⟨hrow.cell hj, hrow.free j, ⟨(hfr.block rb h.lt (fun e => h.nW (by rw [e]; rfl))).trans h.blk, .inr ⟨g, cap, rfl, Nat.zero_le _, hcap, hrow.set hj y⟩, h.oH.fr hfr fun k hk e => ?_, h.nW, h.nH, h.nn, h.inc, h.heads, h.good.set hst, fun k hk => ?_, h.hnl, h.nz, h.z, h.xs⟩, Fr.setCell (Fr.refl _ _) (fun _ => hY) _ _⟩
  · subst e
    exact h.nn _ rfl hk
  · by_cases e : k = j
    · rw [e, upd_same]; exact hy
    · rw [upd_other e]; exact h.fb k hk

theorem rset_no (w : World) (rb : Nat) (Y : Nat → Prop) (sz : Nat) (tm : Int) (n : Nat) (f : Nat → Nat) (st : Nat → Bool) (x : Nat) (j : Int) (y : Nat) (h : RefAt w rb Y sz tm n f st) (hx : x < 18446744073709551616) (hj : j < 0 ∨ (hTag (headOf f st x) : Int) ≤ j) :
    Calls Try.prog 37 #[.pointer (some ⟨rb, 0, none⟩), .int .u64 (x : Int), .int .i64 j, .int .u64 (y : Int)] w fun e w' => e = .returned (.bool false) ∧ w' = w := by
  have KT := rTagged_any w rb Y sz tm n f st x h hx
  generalize hTag (headOf f st x) = t at *
  by_cases h0 : j < 0
  · clear hj
    go_enter Try.func37, Try.ntmps37
    go_wp2
    go_ret
    exact ⟨rfl, rfl⟩
  · have hj' : (t : Int) ≤ j := by omega
    clear hj
    go_enter Try.func37, Try.ntmps37
    go_wp2_with (go_at_call 44; refine KT.mono ?_; rintro e w' ⟨rfl, hw⟩; replace hw := hw.symm; subst hw)
    go_ret
    exact ⟨rfl, rfl⟩
theorem rset_bar (w : World) (rb : Nat) (Y : Nat → Prop) (sz : Nat) (tm : Int) (n : Nat) (f : Nat → Nat) (st : Nat → Bool) (x j y : Nat) (h : RefAt w rb Y sz tm n f st) (hx : x < 18446744073709551616) (hy : y < 18446744073709551616) (hc : isPtr st x = true) (hj : j < hTag (f (x / 4))) (hm : may st y = false) :
    Calls Try.prog 37 #[.pointer (some ⟨rb, 0, none⟩), .int .u64 (x : Int), .int .i64 (j : Int), .int .u64 (y : Int)] w fun e w' => e = .returned (.bool false) ∧ w' = w := by
  have KT := rTagged_any w rb Y sz tm n f st x h hx
  rw [headOf_yes hc] at KT
  have KM := rmay_any w rb Y sz tm n f st y h hy
  rw [hm] at KM
  generalize hTag (f (x / 4)) = t at *
  go_enter Try.func37, Try.ntmps37
  go_wp2_with (first | (go_at_call 44; refine KT.mono ?_; rintro e w' ⟨rfl, hw⟩; replace hw := hw.symm; subst hw) | (go_at_call 62; refine KM.mono ?_; rintro e w' ⟨rfl, hw⟩; replace hw := hw.symm; subst hw))
  go_ret
  exact ⟨rfl, rfl⟩
theorem rset_yes (w : World) (rb : Nat) (Y : Nat → Prop) (sz : Nat) (tm : Int) (n : Nat) (f : Nat → Nat) (st : Nat → Bool) (x j y : Nat) (h : RefAt w rb Y sz tm n f st) (hx : x < 18446744073709551616) (hy : y < 18446744073709551616) (hc : isPtr st x = true) (hj : j < hTag (f (x / 4))) (hm : may st y = true) :
    Calls Try.prog 37 #[.pointer (some ⟨rb, 0, none⟩), .int .u64 (x : Int), .int .i64 (j : Int), .int .u64 (y : Int)] w fun e w' => e = .returned (.bool true) ∧ RefAt w' rb Y sz tm n (upd f (x / 4 + 1 + j) y) st ∧ Fr Y w w' := by
  have KT := rTagged_any w rb Y sz tm n f st x h hx
  rw [headOf_yes hc] at KT
  have KM := rmay_any w rb Y sz tm n f st y h hy
  rw [hm] at KM
  obtain ⟨vW, vH, hn, hd, h⟩ := h
  have hin := (h.good.inn _ (isPtr_st hc).1).2
  have hz := h.z
  have hnz := h.nz
  have hL : hLen (f (x / 4)) = 1 + hTag (f (x / 4)) + hRaw (f (x / 4)) := rfl
  have hin2 : x / 4 + 1 + j < n := by omega
  have hst := h.good.field (i := j) (isPtr_st hc).1 (by omega)
  have hcW := h.cells.2.1
  obtain ⟨g, cap, rfl, hc1, hc2, hcl⟩ := h.oW.rd hin2
  obtain ⟨q1, q2, q3, q4⟩ := h.put (y := y) hin2 hst hy
  have Q3 := hide q3
  have Q4 := hide q4
  obtain ⟨p, hpE, hpI⟩ : ∃ p : Nat, p = x / 4 ∧ (x : Int) / 4 = (p : Int) := ⟨_, rfl, by omega⟩
  rw [← hpE] at KT hj hin2 hcl q1 q2 Q3 Q4 ⊢
  generalize hTag (f p) = t at *
  clear h hL hin hpE q3 q4 hst
  go_enter Try.func37, Try.ntmps37
  go_wp2_with (first | (go_at_call 44; refine KT.mono ?_; rintro e w' ⟨rfl, hw⟩; replace hw := hw.symm; subst hw) | (go_at_call 62; refine KM.mono ?_; rintro e w' ⟨rfl, hw⟩; replace hw := hw.symm; subst hw))
  go_ret
  exact ⟨rfl, ⟨_, _, _, _, Q3.out⟩, Q4.out⟩

theorem rsetRaw_no (w : World) (rb : Nat) (Y : Nat → Prop) (sz : Nat) (tm : Int) (n : Nat) (f : Nat → Nat) (st : Nat → Bool) (x : Nat) (j : Int) (y : Nat) (h : RefAt w rb Y sz tm n f st) (hx : x < 18446744073709551616) (hj : j < 0 ∨ (hRaw (headOf f st x) : Int) ≤ j) :
    Calls Try.prog 38 #[.pointer (some ⟨rb, 0, none⟩), .int .u64 (x : Int), .int .i64 j, .int .u64 (y : Int)] w fun e w' => e = .returned (.bool false) ∧ w' = w := by
  have KT := rRaws_any w rb Y sz tm n f st x h hx
  generalize hRaw (headOf f st x) = t at *
  by_cases h0 : j < 0
  · clear hj
    go_enter Try.func38, Try.ntmps38
    go_wp2
    go_ret
    exact ⟨rfl, rfl⟩
  · have hj' : (t : Int) ≤ j := by omega
    clear hj
    go_enter Try.func38, Try.ntmps38
    go_wp2_with (go_at_call 45; refine KT.mono ?_; rintro e w' ⟨rfl, hw⟩; replace hw := hw.symm; subst hw)
    go_ret
    exact ⟨rfl, rfl⟩
set_option maxRecDepth 20000 in
set_option maxHeartbeats 4000000 in
theorem rsetRaw_yes (w : World) (rb : Nat) (Y : Nat → Prop) (sz : Nat) (tm : Int) (n : Nat) (f : Nat → Nat) (st : Nat → Bool) (x j y : Nat) (h : RefAt w rb Y sz tm n f st) (hx : x < 18446744073709551616) (hy : y < 18446744073709551616) (hc : isPtr st x = true) (hj : j < hRaw (f (x / 4))) :
    Calls Try.prog 38 #[.pointer (some ⟨rb, 0, none⟩), .int .u64 (x : Int), .int .i64 (j : Int), .int .u64 (y : Int)] w fun e w' => e = .returned (.bool true) ∧ RefAt w' rb Y sz tm n (upd f (x / 4 + 1 + hTag (f (x / 4)) + j) y) st ∧ Fr Y w w' := by
  have KR := rRaws_any w rb Y sz tm n f st x h hx
  have KT := fun w1 (hf : Fr (fun _ => False) w w1) => rTagged_any w1 rb Y sz tm n f st x (h.fr hf (fun _ _ e => e)) hx
  rw [headOf_yes hc] at KT KR
  obtain ⟨vW, vH, hn, hd, h⟩ := h
  have hin := (h.good.inn _ (isPtr_st hc).1).2
  have hz := h.z
  have hnz := h.nz
  have hL : hLen (f (x / 4)) = 1 + hTag (f (x / 4)) + hRaw (f (x / 4)) := rfl
  have hin2 : x / 4 + 1 + hTag (f (x / 4)) + j < n := by omega
  have hst := h.good.field (i := hTag (f (x / 4)) + j) (isPtr_st hc).1 (by omega)
  rw [← Nat.add_assoc] at hst
  have hcW := h.cells.2.1
  obtain ⟨g, cap, rfl, hc1, hc2, hcl⟩ := h.oW.rd hin2
  obtain ⟨q1, q2, _, _⟩ := h.put (y := y) hin2 hst hy
  have PUT := hide (fun w1 (hf : Fr (fun _ => False) w w1) => (h.fr hf (fun _ _ e => e)).put (y := y) hin2 hst hy)
  obtain ⟨p, hpE, hpI⟩ : ∃ p : Nat, p = x / 4 ∧ (x : Int) / 4 = (p : Int) := ⟨_, rfl, by omega⟩
  rw [← hpE] at KT KR hj hin2 hcl q1 q2 PUT ⊢
  generalize hTag (f p) = t at *
  generalize hRaw (f p) = r at *
  have hjI : (j : Int) < (r : Int) := by omega
  have hI1 : (p : Int) + 1 + (t : Int) + (j : Int) < (n : Int) := by omega
  have hI0 : (0 : Int) ≤ (p : Int) + 1 + (t : Int) + (j : Int) := by omega
  have hwr : ∀ a : Int, 0 ≤ a → a ≤ 33554432 → IntKind.i64.wrap a = a := fun a a0 a1 => by
    simp only [IntKind.wrap, IntKind.bits, IntKind.signed]
    simp
    omega
  have hI4 : ((p : Int) + 1 + (t : Int) + (j : Int)).toNat = p + 1 + t + j := by omega
  have hw1 := hwr ((p : Int) + 1) (by omega) (by omega)
  have hw2 := hwr ((p : Int) + 1 + (t : Int)) (by omega) (by omega)
  have hw3 := hwr ((p : Int) + 1 + (t : Int) + (j : Int)) (by omega) (by omega)
  have hw4 := hwr (p : Int) (by omega) (by omega)
  have hw5 : IntKind.u64.wrap (p : Int) = (p : Int) := by
    simp only [IntKind.wrap, IntKind.bits, IntKind.signed]
    simp
    omega
  clear hwr
  clear h hL hin hpE hst
  go_enter Try.func38, Try.ntmps38
  go_wp2_with (go_at_call 45; refine KR.mono ?_; rintro e w' ⟨rfl, hw⟩; replace hw := hw.symm; subst hw)
  go_region_with (go_at_call 44; refine (KT _ ?_).mono ?_; exact (Fr.refl _ _).drew; rintro e w' ⟨rfl, hw⟩; replace hw := hw.symm; subst hw)
  all_goals
    obtain ⟨_, _, Q3, Q4⟩ := PUT.out _ ((Fr.refl _ _).drew)
    have HQ3 := hide Q3
    have HQ4 := hide Q4
    clear Q3 Q4
    go_wp2
    go_ret
    exact ⟨rfl, ⟨_, _, _, _, HQ3.out⟩, Fr.trans ((Fr.refl _ _).drew) HQ4.out (fun _ _ e => e)⟩

end Go.Proofs.Ytfeofdeffmnbkaa
