/-
  What is proved here: package value's sameRaws of objects with the same raw fields; Eqv; Equal of two texts of the same bytes.
-/
import Derived.Test.YtchdfenickjiiaaVBytes2
import Derived.BigQuiet
namespace Go.Proofs.Ytchdfenickjiiaa
open Go Go.RowKit

set_option maxRecDepth 20000 in
set_option maxHeartbeats 4000000 in
theorem sameRaws_yes (w : World) (sb hb : Nat) (X : Nat → Prop) (sz : Nat) (tm : Int) (n : Nat) (f : Nat → Nat) (st : Nat → Bool) (x y : Nat) (h : HeapAt w hb X sz tm n f st) (hS : w.cell? ⟨sb, 0, none⟩ = some (.pointer (some ⟨hb, 0, none⟩))) (hx : x < 18446744073709551616) (hy : y < 18446744073709551616) (hr : hRaw (headOf f st y) = hRaw (headOf f st x)) (hs : ∀ i, i < hRaw (headOf f st x) → rawAt f st y i = rawAt f st x i) :
    Calls Try.prog 67 #[.pointer (some ⟨sb, 0, none⟩), .int .u64 (x : Int), .int .u64 (y : Int)] w fun e w' => e = .returned (.bool true) ∧ ∃ q, w' = w.drewN q := by
  have KX := fun q => heapRaws_any (w.drewN q) hb X sz tm n f st x (h.drewN q) hx
  have KY := fun q => heapRaws_any (w.drewN q) hb X sz tm n f st y (h.drewN q) hy
  rw [hr] at KY
  have RX := fun q i => vraw_any (w.drewN q) sb hb X sz tm n f st x i (h.drewN q) hS hx
  have RY := fun q i => vraw_any (w.drewN q) sb hb X sz tm n f st y i (h.drewN q) hS hy
  have hNb : hRaw (headOf f st x) < 16777216 := Nat.mod_lt _ (by decide)
  generalize hRaw (headOf f st x) = N at *
  have hne : ((N : Int) != (N : Int)) = false := by simp
  have HX := hide KX
  have HY := hide KY
  have HRX := hide RX
  have HRY := hide RY
  have HS := hide hs
  clear KX KY RX RY h hr hs
  go_enter Try.func67, Try.ntmps67
  go_wp2
  go_quiet ((first
    | (go_at_call_of 71 (Value.int .u64 (x : Int)); exact Calls.quiet_of (HX.out _))
    | (go_at_call_of 71 (Value.int .u64 (y : Int)); exact Calls.quiet_of (HY.out _))))
  go_wp2_with (go_at_call 71; refine (HX.out _).mono ?_; rintro e w1 ⟨rfl, q1, hq1⟩; replace hq1 : w1 = w.drewN (nq + q1) := (by rw [hq1]; simp); subst hq1)
  go_loopw [27] (fun a27 wr => ∃ i : Nat, i ≤ N ∧ a27 = .int .i64 (i : Int) ∧ ∃ q, wr = w.drewN q) (fun a27 _ => N - (intOf a27).toNat)
  case atStart => exact ⟨0, Nat.zero_le _, rfl, _, rfl⟩
  case round =>
    obtain ⟨i, hi, rfl, q, rfl⟩ := hrel
    by_cases hlt : i < N
    · have hiI : (i : Int) < (N : Int) := by omega
      have RX1 := fun q => HRX.out q i
      have RY1 := fun q => HRY.out q i
      rw [HS.out i hlt] at RY1
      generalize rawAt f st x i = z at *
      have hzz : ((z : Int) != (z : Int)) = false := by simp
      have HX1 := hide RX1
      have HY1 := hide RY1
      clear RX1 RY1
      go_wp2_with (first
        | (go_at_call_of 70 (Value.int .u64 (x : Int)); refine (HX1.out _).mono ?_; rintro e w3 ⟨rfl, q3, hq3⟩; replace hq3 : w3 = w.drewN (q + q3) := (by rw [hq3]; simp); subst hq3)
        | (go_at_call_of 70 (Value.int .u64 (y : Int)); refine (HY1.out _).mono ?_; rintro e w4 ⟨rfl, q4, hq4⟩; replace hq4 : w4 = w.drewN (q + q3 + q4) := (by rw [hq4]; simp); subst hq4))
      refine ⟨⟨i + 1, by omega, by go_num, _, rfl⟩, ?_⟩
      simp [intOf]
      omega
    · have hiN : ¬ ((i : Int) < (N : Int)) := by omega
      go_wp2
      go_ret
      exact ⟨rfl, _, rfl⟩

set_option maxRecDepth 20000 in
theorem eqv_no (w : World) (sb hb : Nat) (X : Nat → Prop) (sz : Nat) (tm : Int) (n : Nat) (f : Nat → Nat) (st : Nat → Bool) (x y : Nat) (h : HeapAt w hb X sz tm n f st) (hS : w.cell? ⟨sb, 0, none⟩ = some (.pointer (some ⟨hb, 0, none⟩))) (hx : x < 18446744073709551616) (hne : x ≠ y) (hk : hKind (headOf f st x) ≠ 5) :
    Calls Try.prog 25 #[.pointer (some ⟨sb, 0, none⟩), .int .u64 (x : Int), .int .u64 (y : Int)] w fun e w' => e = .returned (.bool false) ∧ ∃ q, w' = w.drewN q := by
  have K := isBig_no w sb hb X sz tm n f st x h hS hx hk
  have hxy : ((x : Int) == (y : Int)) = false := by rw [beq_eq_false_iff_ne]; omega
  clear h
  go_enter Try.func25, Try.ntmps25
  go_wp2_with (go_at_call 66; refine K.mono ?_; rintro e w1 ⟨rfl, q1, rfl⟩)
  go_ret
  exact ⟨rfl, _, rfl⟩

theorem eqv_same (w : World) (sb : Nat) (x : Nat) :
    Calls Try.prog 25 #[.pointer (some ⟨sb, 0, none⟩), .int .u64 (x : Int), .int .u64 (x : Int)] w fun e w' => e = .returned (.bool true) ∧ w' = w := by
  have hxy : ((x : Int) == (x : Int)) = true := by simp
  go_enter Try.func25, Try.ntmps25
  go_wp2
  go_ret
  exact ⟨rfl, rfl⟩

/-- A comparison at the block cb: the store, and how many steps it took. -/
def CmpAt (w : World) (cb sb : Nat) (s : Int) : Prop := w.heap[cb]? = some (.cells #[.pointer (some ⟨sb, 0, none⟩), .int .i64 s] 130 (0, 0))

set_option maxRecDepth 20000 in
set_option maxHeartbeats 2000000 in
/-- Two texts of the same bytes are equal. -/
theorem equal_text (w : World) (cb sb hb : Nat) (X : Nat → Prop) (sz : Nat) (tm : Int) (n : Nat) (f : Nat → Nat) (st : Nat → Bool) (x y : Nat) (g : Nat → Nat) (len : Nat) (s : Int) (h : HeapAt w hb X sz tm n f st) (hS : w.cell? ⟨sb, 0, none⟩ = some (.pointer (some ⟨hb, 0, none⟩))) (hc : CmpAt w cb sb s) (hcX : ¬ X cb) (hcs : cb ≠ sb) (hx : x < 18446744073709551616) (hy : y < 18446744073709551616) (hne : x ≠ y) (tx : TextAt f st x g len) (ty : TextAt f st y g len) (hs0 : 0 ≤ s) (hs1 : s < 20000) :
    Calls Try.prog 81 #[.pointer (some ⟨cb, 0, none⟩), .int .u64 (x : Int), .int .u64 (y : Int)] w fun e w' => e = .returned (.bool true) ∧ CmpAt w' cb sb (s + 1) ∧ Fr (fun k => k = cb) w w' := by
  have c0 := cell_of_row w cb 0 _ _ _ hc
  have c1 := cell_of_row w cb 1 _ _ _ hc
  have fz := frozen_of_row w cb 1 _ _ hc
  have hcl : cb < w.heap.size := (Array.getElem?_eq_some_iff.1 hc).1
  have F1 : Fr (fun k => k = cb) w (w.setCell ⟨cb, 1, none⟩ (.int .i64 (s + 1))) := Fr.setCell (S := fun k => k = cb) (Fr.refl _ _) (fun _ => rfl) _ _
  have b1 : CmpAt (w.setCell ⟨cb, 1, none⟩ (.int .i64 (s + 1))) cb sb (s + 1) := heap_setCell_same w cb 1 _ _ _ hc
  have e0 := cell_of_row _ cb 0 _ _ _ b1
  have e1 := cell_of_row _ cb 1 _ _ _ b1
  have i0 := e0
  have i1 := e1
  have H1 := h.fr F1 (fun k hk e => hcX (e ▸ hk))
  have S1 := (F1.cell (o := 0) (World.block_lt_of_cell? _ _ hS) (fun e => hcs e.symm)).trans hS
  obtain ⟨w1, hw1⟩ : ∃ w1, w1 = w.setCell ⟨cb, 1, none⟩ (.int .i64 (s + 1)) := ⟨_, rfl⟩
  rw [← hw1] at F1 b1 e0 e1 H1 S1
  have KE := eqv_no w1 sb hb X sz tm n f st x y H1 S1 hx hne (by rw [tx.hd, hKind_of (by decide)]; decide)
  have KX := fun q => isText_yes (w1.drewN q) sb hb X sz tm n f st x g len (H1.drewN q) S1 hx tx
  have KY := fun q => isText_yes (w1.drewN q) sb hb X sz tm n f st y g len (H1.drewN q) S1 hy ty
  have KR := fun q => sameRaws_yes (w1.drewN q) sb hb X sz tm n f st x y (H1.drewN q) S1 hx hy (by rw [tx.raws, ty.raws]) (fun i hi => by rw [tx.raws] at hi; rw [tx.raw hi, ty.raw hi])
  have hle : ¬ (20000 < s + 1) := by omega
  have HE := hide KE
  have HX := hide KX
  have HY := hide KY
  have HR := hide KR
  have HF := hide F1
  have HB := hide b1
  have HW := hide hw1
  clear KE KX KY KR F1 b1 H1 S1 h hS hc tx ty hw1
  go_enter Try.func81, Try.ntmps81
  go_wp2_with fail
  rw [← HW.out]
  clear i0 i1 c0 c1
  go_wp2_with (first
    | (go_at_call 25; refine HE.out.mono ?_; rintro e w2 ⟨rfl, q2, rfl⟩)
    | (go_at_call_of 80 (Value.int .u64 (x : Int)); refine (HX.out _).mono ?_; rintro e w3 ⟨rfl, q3, hq3⟩; replace hq3 : w3 = w1.drewN (q2 + q3) := (by rw [hq3]; simp); subst hq3)
    | (go_at_call_of 80 (Value.int .u64 (y : Int)); refine (HY.out _).mono ?_; rintro e w4 ⟨rfl, q4, hq4⟩; replace hq4 : w4 = w1.drewN (q2 + q3 + q4) := (by rw [hq4]; simp); subst hq4)
    | (go_at_call 67; refine (HR.out _).mono ?_; rintro e w5 ⟨rfl, q5, hq5⟩; replace hq5 : w5 = w1.drewN (q2 + q3 + q4 + q5) := (by rw [hq5]; simp); subst hq5))
  go_ret
  exact ⟨rfl, HB.out, HF.out.drewN _⟩

end Go.Proofs.Ytchdfenickjiiaa
