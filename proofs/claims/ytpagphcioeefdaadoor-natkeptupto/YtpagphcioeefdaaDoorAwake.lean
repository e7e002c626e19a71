/-
  What is proved here: tandemlaw01.awake answers true: the document's own examples of a sum, a text and a number read.
-/
import Derived.Test.YtpagphcioeefdaaDoorLaw1
import Derived.Test.YtpagphcioeefdaaDoorText
import Derived.Test.YtpagphcioeefdaaDoorTwo
namespace Go.Proofs.YtpagphcioeefdaaDoor
open Go Go.RowKit

def d007 : Nat → Nat := fun i => if i = 2 then 7 else 0
def s007 : ByteArray := ⟨#[48, 48, 55]⟩
theorem s007_digits : ∀ i (h : i < s007.size), s007[i].toNat = 48 + d007 i ∧ d007 i ≤ 9 := by
  intro i h
  have h3 : i < 3 := h
  match i, h3 with
  | 0, _ => exact ⟨rfl, by decide⟩
  | 1, _ => exact ⟨rfl, by decide⟩
  | 2, _ => exact ⟨rfl, by decide⟩

theorem dec_inj {d e : Nat → Nat} {L : Nat} (hd : ∀ i, i < L → d i ≤ 9) (he : ∀ i, i < L → e i ≤ 9) (h : dec d L = dec e L) : ∀ i, i < L → d i = e i := by
  induction L with
  | zero => intro i hi; omega
  | succ k ih =>
    have h1 := hd k (by omega)
    have h2 := he k (by omega)
    rw [dec, dec] at h
    intro i hi
    by_cases e' : i = k
    · rw [e']; omega
    · exact ih (fun i hi => hd i (by omega)) (fun i hi => he i (by omega)) (by omega) i (by omega)
theorem dec_ge {d : Nat → Nat} {L : Nat} (hL : 1 ≤ L) (h0 : d 0 ≠ 0) : 10 ^ (L - 1) ≤ dec d L := by
  obtain ⟨k, rfl⟩ : ∃ k, L = k + 1 := ⟨L - 1, by omega⟩
  rw [Nat.add_sub_cancel]
  clear hL
  induction k with
  | zero => simp [dec]; omega
  | succ k ih => rw [dec, Nat.pow_succ]; omega
theorem says_len {d e : Nat → Nat} {L M : Nat} (hM : 1 ≤ L) (hd : ∀ i, i < L → d i ≤ 9) (h : dec d L = dec e M) (h0 : M = 1 ∨ e 0 ≠ 0) : ¬ L < M := by
  intro hlt
  have h1 := dec_lt hd
  have h2 := dec_ge (d := e) (L := M) (by omega) (by rcases h0 with h | h; omega; exact h)
  have h3 : 10 ^ L ≤ 10 ^ (M - 1) := Nat.pow_le_pow_right (by decide) (by omega)
  omega
theorem says_uniq {s t : ByteArray} {x : Nat} (hs : Says s x) (ht : Says t x) : s = t := by
  obtain ⟨d, a1, a2, a3, a4⟩ := hs
  obtain ⟨e, b1, b2, b3, b4⟩ := ht
  have l1 := says_len a1 (fun i hi => (a2 i hi).2) (a3.trans b3.symm) b4
  have l2 := says_len b1 (fun i hi => (b2 i hi).2) (b3.trans a3.symm) a4
  have hl : s.size = t.size := by omega
  have hi := dec_inj (fun i hi => (a2 i hi).2) (fun i hi => (b2 i (by omega)).2) (by rw [a3, hl, b3])
  apply ByteArray.ext
  apply Array.ext
  · exact hl
  · intro i h1 h2
    apply UInt8.toNat_inj.1
    exact ((a2 i h1).1.trans (by rw [hi i h1])).trans (b2 i h2).1.symm

def dBig : Nat → Nat := fun i => [4, 2, 9, 4, 9, 6, 7, 2, 9, 6].getD i 0
def sBig : ByteArray := ⟨#[52, 50, 57, 52, 57, 54, 55, 50, 57, 54]⟩
theorem sBig_says : Says sBig 4294967296 := by
  refine ⟨dBig, by decide, fun i h => ?_, by decide, .inr (by decide)⟩
  have h3 : i < 10 := h
  match i, h3 with
  | 0, _ => exact ⟨rfl, by decide⟩
  | 1, _ => exact ⟨rfl, by decide⟩
  | 2, _ => exact ⟨rfl, by decide⟩
  | 3, _ => exact ⟨rfl, by decide⟩
  | 4, _ => exact ⟨rfl, by decide⟩
  | 5, _ => exact ⟨rfl, by decide⟩
  | 6, _ => exact ⟨rfl, by decide⟩
  | 7, _ => exact ⟨rfl, by decide⟩
  | 8, _ => exact ⟨rfl, by decide⟩
  | 9, _ => exact ⟨rfl, by decide⟩

theorem num_lit1 (B a : Nat) : num B (fun _ => a) 1 = a := by simp [num]
theorem num_lit2 (B a b : Nat) : num B (fun i => if i = 0 then a else b) 2 = a + b * B := by simp [num]
theorem can_lit2 (B a b : Nat) (ha : a < B) (hb : b < B) (h0 : b ≠ 0) : Can B (fun i => if i = 0 then a else b) 2 := by
  refine ⟨fun i hi => ?_, .inr (by simpa using h0)⟩
  by_cases e : i = 0 <;> simp [e] <;> omega
theorem can_lit1 (B a : Nat) (ha : a < B) (h0 : a ≠ 0) : Can B (fun _ => a) 1 := ⟨fun _ _ => ha, .inr h0⟩

theorem top_four (G : Nat → Nat) (k : Nat) (hc : Can 1000000000 G k) (h : num 1000000000 G k = 4294967296) (hk : k ≠ 0) : AppOk (G (k - 1)) := by
  have u := can_uniq (by decide) hc (can_lit2 1000000000 294967296 4 (by decide) (by decide) (by decide)) (by rw [h, num_lit2])
  obtain ⟨rfl, hg⟩ := u
  rw [hg 1 (by decide)]
  exact app_four

set_option maxRecDepth 4000 in
set_option maxHeartbeats 2000000 in
theorem awake_any (w : World) : Calls Tryd.prog 18 #[] w fun e w' => e = .returned (.bool true) ∧ Below w.heap.size w w' := by
  have hp := parse_yes s007 d007 w (by decide) (by decide) s007_digits
  have HP := hide hp
  clear hp
  go_enter Tryd.func18, Tryd.ntmps18
  go_wp2_with fail
  refine (unhide HP).mono ?_
  rintro e w1 ⟨v1, n1, f1, rfl, o1, b1, c1, l1, p1⟩
  go_wp2_with fail
  have s1 := (lit1 w1 41 4294967295).below (below_alloc _ (.cells #[.int .u32 1] 41)) (Nat.le_refl _)
  have s2 := lit1 (w1.alloc (.cells #[.int .u32 4294967295] 41)) 41 1
  rw [size_alloc] at s2
  refine (add2 _ _ 1 1 1 (fun _ => 4294967295) (fun _ => 1) _ s1 s2 (fun _ _ => by decide) (fun _ _ => by decide) (Nat.le_refl _) (Nat.le_refl _) (by decide)).mono ?_
  rintro e w2 ⟨v2, n2, f2, rfl, o2, b2, c2, l2, p2⟩
  go_wp2_with fail
  have s3 := lit2 w2 41 0 1
  have h2 := can_uniq (by decide) c2 (can_lit2 4294967296 0 1 (by decide) (by decide) (by decide)) (by rw [p2, num_lit1, num_lit1, num_lit2])
  refine (same_sl _ _ n2 2 f2 _ _ (o2.sl.below (below_alloc _ _) (Nat.le_refl _)) s3 h2).mono ?_
  rintro e w3 ⟨rfl, b3⟩
  clear s1 s2 s3 h2 p2 o2
  go_wp2_with fail
  have s4 := lit2 w3 41 0 1
  refine (text_any _ 2 _ _ s4 (can_lit2 4294967296 0 1 (by decide) (by decide) (by decide)).1 (by decide) (fun G k hc h hk => top_four G k hc (by rw [h, num_lit2]) hk)).mono ?_
  rintro e w4 ⟨s, rfl, b4, -, hs4⟩
  rw [num_lit2] at hs4
  obtain rfl : s = sBig := says_uniq hs4 sBig_says
  clear s4 hs4
  have heq : (sBig.toList == [52, 50, 57, 52, 57, 54, 55, 50, 57, 54]) = true := by rw [Lib.toList_data]; decide
  go_wp2_with fail
  have B2 : Below w1.heap.size w1 w2 := ((below_alloc w1 _).trans ((below_alloc _ _).mono (by simp))).trans (b2.mono (by simp; omega))
  have B3 : Below w1.heap.size w1 w3 := B2.trans (((below_alloc w2 _).trans (b3.mono (by simp))).mono B2.size)
  have B4 : Below w1.heap.size w1 w4 := B3.trans (((below_alloc w3 _).trans (b4.mono (by simp))).mono B3.size)
  have B5 := B4.trans ((below_alloc w4 (.cells #[.int .u32 7] 41)).mono B4.size)
  have h7 : dec d007 s007.size = 7 := by decide
  have hs := can_uniq (by decide) c1 (can_lit1 4294967296 7 (by decide) (by decide)) (by rw [p1, h7, num_lit1])
  refine (same_sl _ _ n1 1 f1 _ _ (o1.sl.below B5 (Nat.le_refl _)) (lit1 w4 41 7) hs).mono ?_
  rintro e w6 ⟨rfl, b6⟩
  have B6 := B5.trans (b6.mono (by have := B4.size; simp; omega))
  clear hs h7 p1 o1 b2 b3 b4 B2 B3 B4 B5 b6
  go_wp2_with fail
  go_ret
  exact ⟨rfl, b1.trans (B6.mono b1.size)⟩

end Go.Proofs.YtpagphcioeefdaaDoor
