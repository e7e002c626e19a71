/-
  What is proved here: what the walks of tandemlaw03's do share; how a call of it ends.
-/
import Derived.Test.YtfeofdeffmnbkaaHOn2
namespace Go.Proofs.Ytfeofdeffmnbkaa
open Go Go.RowKit

/-- A variable that was laid, read behind draws. -/
theorem boxCell {w w1 : World} {cs : Array Value} {T : TypeId} (h : ∃ q, w1 = (w.alloc (.cells cs T)).drewN q) (i : Nat) (v : Value) (hv : cs[i]? = some v) : w1.cell? ⟨w.heap.size, i, none⟩ = some v := by
  obtain ⟨q, rfl⟩ := h
  exact (cell_of_row _ _ i cs T (0, 0) (heap_alloc_new w (.cells cs T))).trans hv
theorem ofDrew {w w1 : World} {cs : Array Value} {T : TypeId} (h : ∃ q, w1 = (w.alloc (.cells cs T)).drewN q) : Fr (fun _ => False) w w1 := by
  obtain ⟨q, rfl⟩ := h
  exact ((Fr.refl _ _).alloc _).drewN q
theorem boxLt {w w1 : World} {cs : Array Value} {T : TypeId} (h : ∃ q, w1 = (w.alloc (.cells cs T)).drewN q) : w.heap.size < w1.heap.size := by
  obtain ⟨q, rfl⟩ := h
  show w.heap.size < (w.alloc (.cells cs T)).heap.size
  simp
theorem drew_more {w w1 w2 : World} (h : ∃ q, w1 = w.drewN q) (k : ∃ q, w2 = w1.drewN q) : ∃ q, w2 = w.drewN q := by
  obtain ⟨q, rfl⟩ := h
  obtain ⟨q', rfl⟩ := k
  exact ⟨q + q', by simp [World.drewN, Nat.add_assoc]⟩
/-- A call that only reads, behind draws. -/
theorem quiet_on {P : Program} {F : Nat} {args : Array Value} {w : World} {a x : Nat} {v : Value} (h : Calls P F args (w.drewN (a + x)) fun e w' => e = .returned v ∧ ∃ q, w' = (w.drewN (a + x)).drewN q) : Calls P F args (w.drewN (a + x)) fun e w' => e = .returned v ∧ ∃ n, w' = w.drewN (a + n) :=
  h.mono fun e w' he => by
    obtain ⟨rfl, q, rfl⟩ := he
    exact ⟨rfl, x + q, by simp [World.drewN, Nat.add_assoc]⟩
theorem pick_at (w : World) (ob hb : Nat) (X : Nat → Prop) (rb : Nat) (Y : Nat → Prop) (vO : Value) (sz : Nat) (tm : Int) (n : Nat) (f : Nat → Nat) (st : Nat → Bool) (m : Nat) (o : Nat → Nat) (i : Int) (x : Nat) (hx : pk m o i = x) (h : OnIn w ob hb X rb Y vO sz tm n f st m o) (hi1 : -9223372036854775808 ≤ i) (hi2 : i ≤ 9223372036854775807) :
    Calls Try.prog 16 #[.pointer (some ⟨ob, 0, none⟩), .int .i64 i] w fun e w' => e = .returned (.int .u64 (x : Int)) ∧ ∃ q, w' = w.drewN q := hx ▸ pick_any w ob hb X rb Y vO sz tm n f st m o i h hi1 hi2
theorem place_at (k : Int) (j : Nat) (hj : (k % ((7 : Nat) : Int)).toNat = j) (h1 : -9223372036854775808 ≤ k) (h2 : k ≤ 9223372036854775807) (w : World) :
    Calls Try.prog 22 #[.int .i64 k, .int .i64 7] w fun e w' => e = .returned (.int .i64 (j : Int)) ∧ w' = w := hj ▸ place_any k 7 w (by decide) (by decide) h1 h2

/-- How a call of do ends. -/
def DoEnd (B : Nat) (w : World) (ob hb rb sz l : Nat) (tm : Int) (n : Nat) (f : Nat → Nat) (st : Nat → Bool) (m : Nat) (o : Nat → Nat) (e : Ending) (w' : World) : Prop :=
  e = .returned (.bool true) ∧ ∃ tm2 n2 f2 st2 m2 o2, OnAt B w' ob hb rb sz tm2 n2 f2 st2 m2 o2 ∧ Fr (fun k => B ≤ k) w w' ∧ DoStep sz l tm n f st m o tm2 n2 f2 st2 m2 o2
theorem DoEnd.idle {B : Nat} {w w' : World} {ob hb rb sz l : Nat} {tm : Int} {n : Nat} {f : Nat → Nat} {st : Nat → Bool} {m : Nat} {o : Nat → Nat} {X Y : Nat → Prop} {vO : Value} (h : OnIn w' ob hb X rb Y vO sz tm n f st m o) (bX : ∀ k, X k → B ≤ k) (bY : ∀ k, Y k → B ≤ k) (bo : B ≤ ob) (bO : ∀ g, vO.ownBlock = some g → B ≤ g) (hF : Fr (fun _ => False) w w') : DoEnd B w ob hb rb sz l tm n f st m o (.returned (.bool true)) w' :=
  ⟨rfl, tm, n, f, st, m, o, ⟨X, Y, vO, h, bX, bY, bo, bO⟩, hF.some, .inl ⟨rfl, rfl, rfl, rfl, rfl, .inl (.inl rfl)⟩⟩

end Go.Proofs.Ytfeofdeffmnbkaa
