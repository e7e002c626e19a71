/-
  What is proved here: See (package feed).
-/
import Derived.Test.YtcefeclgehijpaaFAdd
namespace Go.Proofs.Ytcefeclgehijpaa
open Go Go.RowKit

/-- The bits of kinds. -/
def mk (g : Nat → Int) : Nat → Int
  | 0 => 0
  | i + 1 => if 1 ≤ g i ∧ g i ≤ 62 then orI (mk g i) (2 ^ (g i).toNat) else mk g i
/-- A row of numbers that came in. -/
def IRow (w : World) (ao : Option Addr) (n : Nat) (g : Nat → Int) : Prop := n = 0 ∨ ∃ b off, ao = some ⟨b, off, none⟩ ∧ ∀ i, i < n → w.cell? ⟨b, off + i, none⟩ = some (.int .i64 (g i))

theorem FB.s2 {w : World} {a : Nat} {f : Fd} (h : FB w a f) (x : Int) : FB (w.setCell ⟨a, 2, none⟩ (.int .i64 x)) a { f with m := x } := (heap_setCell_same w a 2 _ _ _ h).trans rfl
theorem FB.fz {w : World} {a : Nat} {f : Fd} (h : FB w a f) (i : Nat) : w.frozen? ⟨a, i, none⟩ = false := frozen_of_row _ _ _ _ _ h

theorem FB.row {w : World} {a : Nat} {f : Fd} (h : FB w a f) : FRow w (some ⟨a, 0, none⟩) 1 (fun _ => f) :=
  .inr ⟨a, 0, rfl, fun i hi => by
    obtain rfl : i = 0 := by omega
    exact ⟨h.k0, h.k1, h.k2, h.k3⟩⟩
theorem w64_pow {x : Int} (h1 : 1 ≤ x) (h2 : x ≤ 62) : wrap64 (2 ^ x.toNat) = 2 ^ x.toNat := by
  have h : ((2 ^ x.toNat : Nat) : Int) = (2 : Int) ^ x.toNat := Int.natCast_pow 2 x.toNat
  have h3 : 2 ^ x.toNat ≤ 4611686018427387904 := by
    have h4 : x.toNat ≤ 62 := by omega
    exact Nat.le_trans (Nat.pow_le_pow_right (by decide) h4) (by decide)
  rw [← h]
  generalize 2 ^ x.toNat = y at *
  simp [wrap64]
  omega
theorem Adv.ahead {w w1 w2 : World} {t r clock : Nat} {T : List PL} {S : List PM} (h : TabAt w t r T clock) (F : Fr (fun _ => False) w w1) (A : Adv w1 w2 t r T S) : Adv w w2 t r T S :=
  Adv.trans (h.same F) (F.mono (fun _ _ e => e.elim)) (fun _ e => .inl e) A

set_option maxRecDepth 20000 in
set_option maxHeartbeats 4000000 in
theorem see_any (w : World) (t r clock : Nat) (T : List PL) (h : TabAt w t r T clock) (p c : Int) (ao : Option Addr) (n cap : Nat) (g : Nat → Int) (hn : n ≤ 9223372036854775807) (hr : IRow w ao n g) :
    Calls Try.prog 8 #[.pointer (some ⟨t, 0, none⟩), .int .i64 p, .int .i64 c, .slice ao n cap] w fun e w' => e = .returned (.tuple #[]) ∧ Adv w w' t r T (addS (T.map PL.pm) ⟨p, c, mk g n, -1⟩) := by
  have HT := hide h
  have HR := hide hr
  have K1 := hide (fun W => unseen_eq W p c)
  clear h hr
  go_enter Try.func8, Try.ntmps8
  go_wp2_with (first | (go_at_call 24; refine (K1.out _).mono ?_; rintro e1 w2 ⟨rfl, rfl⟩; unfold fdV))
  go_loopw [16] (fun u wr => ∃ i : Nat, u = .int .i64 (i : Int) ∧ i ≤ n ∧ FB wr (w.heap.size + 1) ⟨p, c, mk g i, -1⟩ ∧ Fr (fun _ => False) w wr) (fun u _ => n - (intOf u).toNat)
  case atStart =>
    refine ⟨0, rfl, Nat.zero_le _, ?_, ((Fr.refl _ _).alloc _).alloc _⟩
    have := heap_alloc_new (w.alloc (.cells #[.int .i64 p, .int .i64 c, .int .i64 0, .int .i64 (-1)] 37)) (.cells #[.int .i64 p, .int .i64 c, .int .i64 0, .int .i64 (-1)] 37)
    rw [World.size_alloc] at this
    exact this
  case round =>
    obtain ⟨i, rfl, hi, hB, hF⟩ := hrel
    by_cases hil : i < n
    · have hiI : (i : Int) < (n : Int) := by omega
      obtain ⟨b, off, rfl, hcel⟩ : ∃ b off, ao = some ⟨b, off, none⟩ ∧ ∀ i, i < n → w.cell? ⟨b, off + i, none⟩ = some (.int .i64 (g i)) := by
        rcases HR.out with e | e
        · omega
        · exact e
      have q0 := hcel i hil
      rw [← hF.cell (World.block_lt_of_cell? w _ q0) (fun e => e)] at q0
      have HM : Hid (mk g (i + 1) = if 1 ≤ g i ∧ g i ≤ 62 then orI (mk g i) (2 ^ (g i).toNat) else mk g i) := rfl
      generalize g i = x at *
      have HB := hide hB
      have HF := hide hF
      have y2 := hB.k2
      have z2 := hB.fz 2
      clear hB hF hcel
      by_cases h1 : 1 ≤ x
      · by_cases h2 : x ≤ 62
        · have hx0 : 0 ≤ x := by omega
          go_wp2_with fail
          go_region
          go_wp2_with fail
          refine ⟨⟨i + 1, by go_num, hil, ?_, (HF.out.setCell (fun e => by omega) _ _).drew⟩, by simp [intOf]; omega⟩
          rw [HM.out, if_pos ⟨h1, h2⟩]
          have := HB.out.s2 (orI (mk g i) (2 ^ x.toNat))
          unfold orI at this ⊢
          rw [w64_pow h1 h2]
          exact this
        · go_wp2_with fail
          refine ⟨⟨i + 1, by go_num, hil, ?_, HF.out⟩, by simp [intOf]; omega⟩
          rw [HM.out, if_neg (fun e => h2 e.2)]
          exact HB.out
      · go_wp2_with fail
        refine ⟨⟨i + 1, by go_num, hil, ?_, HF.out⟩, by simp [intOf]; omega⟩
        rw [HM.out, if_neg (fun e => h1 e.1)]
        exact HB.out
    · have e : i = n := by omega
      subst e
      have hil' : ¬ ((i : Int) < (i : Int)) := by omega
      have HB := hide hB
      have HF := hide hF
      have y0 := hB.k0
      have y1 := hB.k1
      have y2 := hB.k2
      have y3 := hB.k3
      clear hB hF hil
      go_wp2_with fail
      have hb2 : FB (wr.alloc (.cells #[.int .i64 p, .int .i64 c, .int .i64 (mk g i), .int .i64 (-1)] 37)) wr.heap.size ⟨p, c, mk g i, -1⟩ := heap_alloc_new wr _
      have F2 : Fr (fun _ => False) w (wr.alloc (.cells #[.int .i64 p, .int .i64 c, .int .i64 (mk g i), .int .i64 (-1)] 37)) := HF.out.alloc _
      refine (add_any _ t r clock T (HT.out.same F2) (some ⟨wr.heap.size, 0, none⟩) 1 1 (fun _ => ⟨p, c, mk g i, -1⟩) (by omega) hb2.row (fun b off e _ => ?_)).mono ?_
      · cases e
        exact ⟨by simp, fun hk => by have := HT.out.lt _ hk; have := HF.out.size; omega⟩
      · rintro e' w' ⟨rfl, A⟩
        have HAV := hide (Adv.ahead HT.out F2 A)
        clear hb2 F2 A
        go_wp2_with fail
        go_end0
        exact ⟨rfl, HAV.out⟩

end Go.Proofs.Ytcefeclgehijpaa
