/-
  What is proved here: a heap that is only set and read, beside the objects that were kept; no walk.
-/
import Derived.Test.YtfeofdeffmnbkaaHColl5
namespace Go.Proofs.Ytfeofdeffmnbkaa
open Go Go.RowKit

structure OnH (w : World) (ob hb : Nat) (X : Nat → Prop) (vO : Value) (sz : Nat) (tm : Int) (n : Nat) (f : Nat → Nat) (st : Nat → Bool) (m : Nat) (o : Nat → Nat) : Prop where
  lt : ob < w.heap.size
  c0 : w.cell? ⟨ob, 0, none⟩ = some (.pointer (some ⟨hb, 0, none⟩))
  c2 : w.cell? ⟨ob, 2, none⟩ = some vO
  H : HeapAt w hb X sz tm n f st
  O : Own .u64 33 w 0 vO m o
  oX : ¬ X ob
  vX : ∀ g, vO.ownBlock = some g → ¬ X g
theorem OnIn.onH {w : World} {ob hb : Nat} {X : Nat → Prop} {rb : Nat} {Y : Nat → Prop} {vO : Value} {sz : Nat} {tm : Int} {n : Nat} {f : Nat → Nat} {st : Nat → Bool} {m : Nat} {o : Nat → Nat} (h : OnIn w ob hb X rb Y vO sz tm n f st m o) : OnH w ob hb X vO sz tm n f st m o :=
  ⟨h.lt, h.cells.1, h.cells.2.2, h.H, h.O, h.oX, fun g hg => (h.vX g hg).1⟩
theorem OnH.fr {w w2 : World} {ob hb : Nat} {X : Nat → Prop} {vO : Value} {sz : Nat} {tm : Int} {n : Nat} {f : Nat → Nat} {st : Nat → Bool} {m : Nat} {o : Nat → Nat} (h : OnH w ob hb X vO sz tm n f st m o) (hF : Fr (fun _ => False) w w2) : OnH w2 ob hb X vO sz tm n f st m o :=
  ⟨Nat.lt_of_lt_of_le h.lt hF.size, (hF.cell h.lt (fun e => e)).trans h.c0, (hF.cell h.lt (fun e => e)).trans h.c2, h.H.fr hF (fun _ _ e => e), h.O.fr hF (fun _ _ e => e), h.oX, h.vX⟩
theorem OnH.idle {w w2 : World} {ob hb : Nat} {X : Nat → Prop} {vO : Value} {sz : Nat} {tm : Int} {n : Nat} {f : Nat → Nat} {st : Nat → Bool} {m : Nat} {o : Nat → Nat} (h : OnH w ob hb X vO sz tm n f st m o) (hq : ∃ q, w2 = w.drewN q) : OnH w2 ob hb X vO sz tm n f st m o := h.fr (drewFr hq)
theorem OnH.turn {w w2 : World} {ob hb : Nat} {X : Nat → Prop} {vO : Value} {sz : Nat} {tm : Int} {n : Nat} {f f2 : Nat → Nat} {st : Nat → Bool} {m : Nat} {o : Nat → Nat} (h : OnH w ob hb X vO sz tm n f st m o) (H2 : HeapAt w2 hb X sz tm n f2 st) (hF : Fr X w w2) : OnH w2 ob hb X vO sz tm n f2 st m o :=
  ⟨Nat.lt_of_lt_of_le h.lt hF.size, (hF.cell h.lt h.oX).trans h.c0, (hF.cell h.lt h.oX).trans h.c2, H2, h.O.fr hF h.vX, h.oX, h.vX⟩

theorem set_refuse (w : World) (hb : Nat) (X : Nat → Prop) (sz : Nat) (tm : Int) (n : Nat) (f : Nat → Nat) (st : Nat → Bool) (x : Nat) (j : Int) (y : Nat) (h : HeapAt w hb X sz tm n f st) (hx : x < 18446744073709551616) (hy : y < 18446744073709551616) (hm : may st y = false) :
    Calls Try.prog 30 #[.pointer (some ⟨hb, 0, none⟩), .int .u64 (x : Int), .int .i64 j, .int .u64 (y : Int)] w fun e w' => e = .returned (.bool false) ∧ ∃ q, w' = w.drewN q := by
  rcases field_cases hTag f st x j rfl with h1 | ⟨i, rfl, hc, hi⟩
  · exact set_no w hb X sz tm n f st x j y h hx hy h1
  · exact set_bar w hb X sz tm n f st x i y h hx hy hc hi hm

theorem or3 (y : Nat) (hy : y < 18446744073709551616) : ∃ z : Nat, z < 18446744073709551616 ∧ z % 4 = 3 ∧ bits BinOp.or IntKind.u64 (y : Int) 3 = (z : Int) := by
  refine ⟨y ||| 3, Nat.or_lt_two_pow (n := 64) hy (by decide), ?_, ?_⟩
  · have h := Nat.or_mod_two_pow (a := y) (b := 3) (n := 2)
    rw [show (2 : Nat) ^ 2 = 4 from rfl] at h
    rw [h]
    have h4 : y % 4 = 0 ∨ y % 4 = 1 ∨ y % 4 = 2 ∨ y % 4 = 3 := by omega
    rcases h4 with e | e | e | e <;> rw [e] <;> rfl
  · rw [show (3 : Int) = ((3 : Nat) : Int) from rfl, u64_or_nat _ _ hy (by decide)]

theorem head_upd {f : Nat → Nat} {st : Nat → Bool} {x j y : Nat} : headOf (upd f (x / 4 + 1 + j) y) st x = headOf f st x := by
  unfold headOf
  rw [upd_other (by omega)]

theorem may_zero {n : Nat} {f : Nat → Nat} {st : Nat → Bool} (h : Good n f st) : may st 0 = false := by
  rw [may_0 (by decide)]
  unfold isPtr
  cases e : st (0 / 4) with
  | false => simp
  | true => have := (h.inn _ e).1; omega

end Go.Proofs.Ytfeofdeffmnbkaa
