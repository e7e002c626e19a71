/-
  What is proved here: the document's own heap: a word is moved whose object needs no copy.
-/
import Derived.Test.YtfeofdeffmnbkaaHRef5
import Derived.Test.YtfeofdeffmnbkaaHMove
namespace Go.Proofs.Ytfeofdeffmnbkaa
open Go Go.RowKit

theorem hd_inj {hn : Nat} {hd : Nat → Nat} (hi : ∀ i j, i < j → j < hn → hd i < hd j) {a b : Nat} (ha : a < hn) (hb : b < hn) (h : hd a = hd b) : a = b := by
  rcases Nat.lt_trichotomy a b with c | c | c
  · have := hi a b c hb; omega
  · exact c
  · have := hi b a c ha; omega

theorem find_yes (w : World) (rb : Nat) (Y : Nat → Prop) (sz : Nat) (tm : Int) (n : Nat) (f : Nat → Nat) (st : Nat → Bool) (vW vH : Value) (hn : Nat) (hd : Nat → Nat) (h : RefIn w rb Y sz tm n f st vW vH hn hd) (k : Nat) (hk : k < hn) :
    Calls Try.prog 64 #[.pointer (some ⟨rb, 0, none⟩), .int .i64 (hd k : Int)] w fun e w' => e = .returned (.int .i64 (k : Int)) ∧ w' = w := by
  have hlt := h.good.lt ((h.heads _).2 ⟨k, hk, rfl⟩)
  have hz := h.z
  have hnz := h.nz
  refine (find_any w rb Y sz tm n f st vW vH hn hd h (hd k) (by omega)).mono ?_
  rintro e w' ⟨z, rfl, rfl, ⟨j, rfl, hj, he⟩ | ⟨_, hno⟩⟩
  · rw [hd_inj h.inc hj hk he]
    exact ⟨rfl, rfl⟩
  · exact absurd rfl (hno k hk)

theorem rmove_no (w : World) (rb : Nat) (Y : Nat → Prop) (sz : Nat) (tm : Int) (n : Nat) (f : Nat → Nat) (st : Nat → Bool) (x : Nat) (h : RefAt w rb Y sz tm n f st) (nb tb hn : Nat) (hx : x < 18446744073709551616) (hp : isPtr st x = false) :
    Calls Try.prog 63 #[.pointer (some ⟨rb, 0, none⟩), .pointer (some ⟨nb, 0, none⟩), .slice (some ⟨tb, 0, none⟩) hn hn, .int .u64 (x : Int)] w fun e w' => e = .returned (.int .u64 (x : Int)) ∧ w' = w := by
  have KI := ris_any w rb Y sz tm n f st x h hx
  rw [hp] at KI
  go_enter Try.func63, Try.ntmps63
  go_wp2_with (go_at_call 42; refine KI.mono ?_; rintro e w' ⟨rfl, hw⟩; replace hw := hw.symm; subst hw)
  go_ret
  exact ⟨rfl, rfl⟩

set_option maxHeartbeats 1000000 in
theorem rmove_same (w : World) (rb : Nat) (Y : Nat → Prop) (sz : Nat) (tm : Int) (n : Nat) (f : Nat → Nat) (st : Nat → Bool) (vW vH : Value) (hn : Nat) (hd : Nat → Nat) (h : RefIn w rb Y sz tm n f st vW vH hn hd) (nb tb : Nat) (fw : Nat → Nat) (hT : RowAt .i64 3 w tb hn hn (fun k => fw (hd k))) (x : Nat) (hx : x < 18446744073709551616) (hp : isPtr st x = true) (h0 : fw (x / 4) ≠ 0) (hw : fw (x / 4) ≤ 1048576) :
    Calls Try.prog 63 #[.pointer (some ⟨rb, 0, none⟩), .pointer (some ⟨nb, 0, none⟩), .slice (some ⟨tb, 0, none⟩) hn hn, .int .u64 (x : Int)] w fun e w' => e = .returned (.int .u64 ((4 * fw (x / 4) : Nat) : Int)) ∧ w' = w := by
  have KI := ris_any w rb Y sz tm n f st x ⟨_, _, _, _, h⟩ hx
  rw [hp] at KI
  obtain ⟨k, hk, hkE⟩ := (h.heads _).1 (isPtr_st hp).1
  have KF := find_yes w rb Y sz tm n f st vW vH hn hd h k hk
  rw [hkE] at KF
  have hc := hT.cell hk
  simp only [hkE] at hc
  have hhn : hn ≤ 1048576 := by have := h.hnl; have := h.nz; have := h.z; omega
  obtain ⟨y, hy⟩ : ∃ y, y = fw (x / 4) := ⟨_, rfl⟩
  rw [← hy] at hc h0 hw ⊢
  have h0I : (((y : Int)) == 0) = false := by rw [beq_eq_false_iff_ne]; omega
  clear h hT hkE hy
  go_enter Try.func63, Try.ntmps63
  go_wp2_with (first
    | (go_at_call 42; refine KI.mono ?_; rintro e w' ⟨rfl, hw⟩; replace hw := hw.symm; subst hw)
    | (go_at_call 64; refine KF.mono ?_; rintro e w' ⟨rfl, hw⟩; replace hw := hw.symm; subst hw))
  go_ret
  refine ⟨retI ?_, rfl⟩
  omega

end Go.Proofs.Ytfeofdeffmnbkaa
