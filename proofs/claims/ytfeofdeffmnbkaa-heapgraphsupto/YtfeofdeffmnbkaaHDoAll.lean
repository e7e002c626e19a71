/-
  What is proved here: tandemlaw03's do, of every kind: both heaps answer alike, and what lies there then.
-/
import Derived.Test.YtfeofdeffmnbkaaHDo0
import Derived.Test.YtfeofdeffmnbkaaHDo1
import Derived.Test.YtfeofdeffmnbkaaHDo3
import Derived.Test.YtfeofdeffmnbkaaHDo5
import Derived.Test.YtfeofdeffmnbkaaHDo6
namespace Go.Proofs.Ytfeofdeffmnbkaa
open Go Go.RowKit

def Rng (z : Int) : Prop := -9223372036854775808 ≤ z ∧ z ≤ 9223372036854775807

/-- A call of a script: its seven parts, of which the list has l numbers. -/
structure OpV (w : World) (k a b c : Int) (y : Nat) (vR : Value) (l : Nat) (g : Nat → Int) : Prop where
  k : Rng k
  a : Rng a
  b : Rng b
  c : Rng c
  y : y < 18446744073709551616
  R : SlI .i64 w vR l g
  g : ∀ i, i < l → Rng (g i)

theorem do_any (B : Nat) (w : World) (ob hb rb sz : Nat) (tm : Int) (n : Nat) (f : Nat → Nat) (st : Nat → Bool) (m : Nat) (o : Nat → Nat) (k a b c : Int) (y : Nat) (bo : Bool) (vR : Value) (l : Nat) (g : Nat → Int) (h : OnAt B w ob hb rb sz tm n f st m o) (hB : B ≤ w.heap.size) (hv : OpV w k a b c y vR l g)
    (htm1 : 0 ≤ tm) (htm2 : tm ≤ 4611686018427387904) (hl : l ≤ 17592186044415) (hm : m + 1 ≤ 17592186044416) :
    Calls Try.prog 13 #[.pointer (some ⟨ob, 0, none⟩), .agg #[.int .i64 k, .int .i64 a, .int .i64 b, .int .i64 c, .int .u64 (y : Int), .bool bo, vR]] w fun e w' => DoEnd B w ob hb rb sz l tm n f st m o e w' := by
  obtain ⟨j, hj⟩ : ∃ j, (k % ((7 : Nat) : Int)).toNat = j := ⟨_, rfl⟩
  have hj7 : j < 7 := by omega
  have hc : j = 0 ∨ j = 1 ∨ j = 2 ∨ j = 3 ∨ j = 4 ∨ j = 5 ∨ j = 6 := by omega
  rcases hc with rfl | rfl | rfl | rfl | rfl | rfl | rfl
  · cases bo
    · exact do0_false B w ob hb rb sz tm n f st m o k a b c y vR l h hB hv.k.1 hv.k.2 hv.a.1 hv.a.2 hv.y hj hm
    · exact do0_true B w ob hb rb sz tm n f st m o k a b c y vR l h hB hv.k.1 hv.k.2 hv.a.1 hv.a.2 hv.c.1 hv.c.2 hv.y hj hm
  · cases bo
    · exact do1_false B w ob hb rb sz tm n f st m o k a b c y vR l h hB hv.k.1 hv.k.2 hv.a.1 hv.a.2 hv.y hj
    · exact do1_true B w ob hb rb sz tm n f st m o k a b c y vR l h hB hv.k.1 hv.k.2 hv.a.1 hv.a.2 hv.c.1 hv.c.2 hv.y hj
  · cases bo
    · exact do2_false B w ob hb rb sz tm n f st m o k a b c y vR l h hB hv.k.1 hv.k.2 hv.a.1 hv.a.2 hv.y hj
    · exact do2_true B w ob hb rb sz tm n f st m o k a b c y vR l h hB hv.k.1 hv.k.2 hv.a.1 hv.a.2 hv.c.1 hv.c.2 hv.y hj
  · cases bo
    · exact do3_false B w ob hb rb sz tm n f st m o k a b c y vR l h hB hv.k.1 hv.k.2 hv.a.1 hv.a.2 hv.y hj
    · exact do3_true B w ob hb rb sz tm n f st m o k a b c y vR l h hB hv.k.1 hv.k.2 hv.a.1 hv.a.2 hv.c.1 hv.c.2 hv.y hj
  · cases bo
    · exact do4_false B w ob hb rb sz tm n f st m o k a b c y vR l h hB hv.k.1 hv.k.2 hv.a.1 hv.a.2 hv.y hj
    · exact do4_true B w ob hb rb sz tm n f st m o k a b c y vR l h hB hv.k.1 hv.k.2 hv.a.1 hv.a.2 hv.c.1 hv.c.2 hv.y hj
  · cases bo
    · exact do5_false B w ob hb rb sz tm n f st m o k a b c y vR l h hB hv.k.1 hv.k.2 hv.a.1 hv.a.2 hv.y htm1 htm2 g hv.R hv.g hl hj
    · exact do5_true B w ob hb rb sz tm n f st m o k a b c y vR l h hB hv.k.1 hv.k.2 hv.a.1 hv.a.2 hv.c.1 hv.c.2 hv.y htm1 htm2 g hv.R hv.g hl hj
  · cases bo
    · exact do6_false B w ob hb rb sz tm n f st m o k a b c y vR l h hB hv.k.1 hv.k.2 hv.a.1 hv.a.2 hv.y hj
    · exact do6_true B w ob hb rb sz tm n f st m o k a b c y vR l h hB hv.k.1 hv.k.2 hv.a.1 hv.a.2 hv.c.1 hv.c.2 hv.y hj

/-- A script in memory: N calls, whose lists have at most L numbers. -/
def OpsIn (w : World) (ao : Option Addr) (N L : Nat) : Prop :=
  N = 0 ∨ ∃ b off, ao = some ⟨b, off, none⟩ ∧ ∀ i, i < N → ∃ (k a b' c : Int) (y : Nat) (bo : Bool) (vR : Value) (l : Nat) (g : Nat → Int), OpV w k a b' c y vR l g ∧ l ≤ L ∧
    w.cell? ⟨b, off + i * 7, none⟩ = some (.int .i64 k) ∧ w.cell? ⟨b, off + i * 7 + 1, none⟩ = some (.int .i64 a) ∧ w.cell? ⟨b, off + i * 7 + 2, none⟩ = some (.int .i64 b') ∧ w.cell? ⟨b, off + i * 7 + 3, none⟩ = some (.int .i64 c) ∧ w.cell? ⟨b, off + i * 7 + 4, none⟩ = some (.int .u64 (y : Int)) ∧ w.cell? ⟨b, off + i * 7 + 5, none⟩ = some (.bool bo) ∧ w.cell? ⟨b, off + i * 7 + 6, none⟩ = some vR

theorem SlI.fr {k : IntKind} {w w2 : World} {v : Value} {n : Nat} {g : Nat → Int} (h : SlI k w v n g) (hF : Fr (fun x => w.heap.size ≤ x) w w2) : SlI k w2 v n g := by
  obtain ⟨ao, cap, rfl, h1, h2, h3⟩ := h
  refine ⟨ao, cap, rfl, h1, h2, ?_⟩
  rcases h3 with h3 | ⟨b, off, e, hc⟩
  · exact .inl h3
  · exact .inr ⟨b, off, e, fun i hi => by
      have hlt := World.block_lt_of_cell? _ _ (hc i hi)
      exact (hF.cell hlt (Nat.not_le.2 hlt)).trans (hc i hi)⟩
theorem OpV.fr {w w2 : World} {k a b c : Int} {y : Nat} {vR : Value} {l : Nat} {g : Nat → Int} (h : OpV w k a b c y vR l g) (hF : Fr (fun x => w.heap.size ≤ x) w w2) : OpV w2 k a b c y vR l g := ⟨h.k, h.a, h.b, h.c, h.y, h.R.fr hF, h.g⟩

/-- What a script keeps. -/
structure Kept (sz L : Nat) (I : Nat → (Nat → Nat) → (Nat → Bool) → Nat → (Nat → Nat) → Prop) : Prop where
  zero : I 1 (fun _ => 0) (fun _ => false) 0 (fun _ => 0)
  step : ∀ l tm n f st m o tm2 n2 f2 st2 m2 o2, l ≤ L → Good n f st → (∀ i, i < n → f i < 18446744073709551616) → n ≤ sz → I n f st m o → DoStep sz l tm n f st m o tm2 n2 f2 st2 m2 o2 → I n2 f2 st2 m2 o2

/-- How long the list of objects may be. -/
def Len (sz L : Nat) (n : Nat) (_f : Nat → Nat) (_st : Nat → Bool) (m : Nat) (_o : Nat → Nat) : Prop := m + sz ≤ L + 1 + sz + n ∧ 1 ≤ n

end Go.Proofs.Ytfeofdeffmnbkaa
