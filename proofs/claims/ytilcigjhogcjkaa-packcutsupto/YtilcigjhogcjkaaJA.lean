/-
  What is proved here: what math/bits.Add32, Sub32, Mul32, Div32 answer, as plain sums, differences, products and quotients. what the small functions without memory of their own answer: nat.trim, tandemlaw00.SameLimbs, math/bits.Add32 and others, for every argument that can be read. plain facts on adding and taking digit by digit, with a carry; no walk. nat.addInto adds one row of limbs to another in place, and nat.takeFrom takes one from another; nothing else in memory turns. tandemlaw00.CopyLimbs, tandemlaw01.c and nat.clone hand back the limbs that they were handed, in new memory; tandemlaw01.same tells that two lists are the same. nat.Add answers the canonical limbs of the sum of all that it is handed, in new memory, for fewer than 2^32 lists that fit a machine. plain facts on multiplying a number's digits by a small factor, and on decimal digits; no walk. nat.Parse answers the number that a text of decimal digits says, and true; nothing and false of any other text. nat.divideByLimb divides a row of limbs by one limb in place, and answers the rest. nat.groupsOf answers a number's digits to the base 10^9, the highest not 0; nat.appendGroup appends nine decimal digits. nat.appendGroup appends the nine decimal digits of a group to a row of bytes that is its own. strconv.AppendUint appends the one decimal digit of 4. nat.Text answers the shortest decimal digits of a number, as far as strconv.AppendUint answers those of the highest group. plain facts on multiplying digit by digit; no walk. nat.addTimes adds a multiple of one row of limbs to another in place, and nat.times answers the canonical limbs of the product of two numbers, in new memory. nat.product and nat.Mul answer the limbs of the product of all that they are handed. nat.Add and nat.Mul of two numbers, out of the contracts for as many as one likes. small facts that let one call follow another: what could be read ahead of a call can be read behind it. num.numberOf cuts the noughts at the end off and keeps the sign of what is not 0; num.work and num.answer turn numbers into what is worked at and back. what the statements of num share: tandemlaw02.c copies a number, tandemlaw02.same tells that two numbers are the same. num.difference, num.total and num.sum: the sum of any numbers with their signs, canonical, in new memory. num.total and num.sum: the sum of any numbers with their signs, canonical, in new memory. num.workAll turns a row of numbers into what is worked at; num.Add answers the sum of all that it is handed. strconv.AppendUint appends the decimal digits of a number, where the library's table of powers of ten reads as it is laid. nat.Text answers the shortest decimal digits of a number, where the library's table of powers of ten reads as it is laid; digits behind noughts; tandemlaw00.Place; strings of digits. the row's condition on the tables gives what strconv.AppendUint asks; tandemlaw00.Place; a nought ahead of digits. num.Of answers the number that it is handed; num.Text says it with its sign. num.Text says a number with its sign. plain facts on long division digit by digit, and on shifts; no walk. nat.takeTimes takes a multiple of one row of limbs from another in place, and tells whether it had to borrow. nat.guessLimb answers the quotient of a part by the divisor, or 1 more. plain facts on shifting a number's limbs; no walk. nat.shiftLeft and nat.shiftRight shift a number's limbs into new memory. plain facts on long division, one quotient limb at a time; no walk. nat.divideLong answers quotient and rest of two numbers, the divisor of two limbs or more. nat.divideLong answers quotient and rest of two numbers, the divisor of two limbs or more. nat.Div answers the canonical limbs of quotient and rest and true; nothing, nothing and false, where the divisor is 0. a region that draws its order of evaluation, by one relation: what each operation gives, said of its value and of the world, as long as no other operation of the region turns it. a region that draws its order of evaluation, whose operations lay new variables, store into these or into older ones once, and else only lay memory: by what each operation gives. num.Cmp tells which of two numbers is less. what the regions of package num share: rows in new memory that lie within the blocks that an operation laid; num.divide by any number. a number's decimal text is one. tandemlaw02.awake answers true: the document's own examples of a division downwards and of a sum. a number in new memory, said by its value. num.product: the product of two and more numbers with their signs. num.Mul of two numbers, num.Neg and num.Sub. the calls of package num and of its statements, said by the values of the numbers alone.
-/
import Derived.Test.YtilcigjhogcjkaaProg
import Derived.Test.YtilcigjhogcjkaaBase
import Derived.Test.YtilcigjhogcjkaaHBase
import Derived.WalkLawsBesides
import Derived.Laws.BitsAllLaws
import Derived.Laws.CopyOwn
import Derived.Laws.AppendOwnNone
import Derived.Lib.Strings
import Derived.Lib.AppendStr
import Derived.Laws.IdiomStrings
import Derived.Deep.RegionWith
import Derived.Deep.QuietTactic
import Derived.BigQuiet
import Derived.Handy
import Derived.Maps.AppendAt
import Derived.Shelf.Strconv.AppendInt10
import Derived.Ground.NamesProg
import Derived.Test.YtilcigjhogcjkaaRows
import Derived.Laws.MathBits
import Derived.Orders
import Derived.Laws.World
import Derived.Deep.RegionHeld3
namespace Go.Proofs.Ytilcigjhogcjkaa
open Go Go.RowKit Go.Shelf
theorem infoU : (Try.prog.info? 65).map (fun i => (i.zero, i.size, i.bytes)) = some (some (.int .u32 0), 1, 4) := by kernel_rfl

theorem Below.of_grown {w w' : World} (h : w.grownBy w' none) : Below w.heap.size w w' :=
  (Below.refl _ _).grown h (Nat.le_refl _) (fun k hk => by cases hk)

theorem cellsOf_read {k : IntKind} {w : World} {b off n : Nat} {f : Nat → Nat} (hc : ∀ i, i < n → w.cell? ⟨b, off + i, none⟩ = some (.int k (f i))) : ∀ j u, (cellsOf k f n)[j]? = some u → w.cell? ((⟨b, off, none⟩ : Addr).add j) = some u := by
  intro j u hj
  have hl : j < n := by
    have := (List.getElem?_eq_some_iff.1 hj).1
    simpa [cellsOf] using this
  rw [cellsOf_get k f n j hl] at hj
  rw [Addr.add_lit, hc j hl]
  exact hj

/-- Where what is read lies, as the laws on copy and append ask it. -/
theorem Rd.cells {k : IntKind} {w : World} {ao : Option Addr} {n : Nat} {f : Nat → Nat} (h : Rd k w ao n f) : 0 < n → ∃ b off, ao = some ⟨b, off, none⟩ ∧ b < w.heap.size ∧ ∀ j u, (cellsOf k f n)[j]? = some u → w.cell? ((⟨b, off, none⟩ : Addr).add j) = some u := by
  intro hn
  rcases h with h | ⟨b, off, rfl, hc⟩
  · omega
  · exact ⟨b, off, rfl, Rd.lt hc hn, cellsOf_read hc⟩

/-- m slices, read from an address on. -/
def Rds (w : World) (mo : Option Addr) (m : Nat) (vs : Nat → Value) : Prop :=
  m = 0 ∨ ∃ b off, mo = some ⟨b, off, none⟩ ∧ ∀ i, i < m → w.cell? ⟨b, off + i, none⟩ = some (vs i)

theorem Rds.below {B : Nat} {w w' : World} {mo : Option Addr} {m : Nat} {vs : Nat → Value} (h : Rds w mo m vs) (hb : Below B w w') (hB : w.heap.size ≤ B) : Rds w' mo m vs := by
  rcases h with h | ⟨b, off, rfl, hc⟩
  · exact .inl h
  · by_cases hn : m = 0
    · exact .inl hn
    · have hl : b < w.heap.size := World.block_lt_of_cell? w _ (hc 0 (by omega))
      exact .inr ⟨b, off, rfl, fun i hi => (hb.cell (p := ⟨b, off + i, none⟩) (by show b < B; omega)).trans (hc i hi)⟩

theorem Rd.apart {k : IntKind} {w : World} {ao : Option Addr} {n : Nat} {f : Nat → Nat} {g : Nat} (h : Rd k w ao n f) (hg : w.heap.size ≤ g) : ∀ a, ao = some a → n ≠ 0 → a.block ≠ g := by
  rintro a rfl hn
  rcases h with h | ⟨b, off, e, hc⟩
  · exact absurd h hn
  · cases e
    have := Rd.lt hc (by omega)
    show b ≠ g
    omega

theorem RowAt.own {k : IntKind} {E : TypeId} {w : World} {base g N n : Nat} {f : Nat → Nat} (h : RowAt k E w g N n f) (hb : base ≤ g) (hN : N ≤ 9223372036854775807) : Own k E w base (.slice (some ⟨g, 0, none⟩) n N) n f :=
  .inr ⟨g, N, rfl, hb, hN, h⟩

theorem RowAt.sl {k : IntKind} {E : TypeId} {w : World} {g N n : Nat} {f : Nat → Nat} (h : RowAt k E w g N n f) (hN : N ≤ 9223372036854775807) : Sl k w (.slice (some ⟨g, 0, none⟩) n N) n f :=
  ⟨_, N, rfl, h.le, hN, (fun e => by cases e), h.rd⟩

theorem below_alloc (w : World) (o : Obj) : Below w.heap.size w (w.alloc o) := (Below.refl _ _).alloc (Nat.le_refl _) o

/-- Behind a call: nothing that was there has turned. -/
def Up (w w' : World) : Prop := Below w.heap.size w w'

theorem Up.tr {a b c : World} (h : Up a b) (k : Up b c) : Up a c := Below.trans h (Below.mono k (Below.size h))

theorem Up.refl (w : World) : Up w w := Below.refl _ _

theorem Sl.up {k : IntKind} {w w' : World} {v : Value} {n : Nat} {f : Nat → Nat} (h : Sl k w v n f) (u : Up w w') : Sl k w' v n f := h.below u (Nat.le_refl _)

theorem Own.up {k : IntKind} {E : TypeId} {w w' : World} {base : Nat} {v : Value} {n : Nat} {f : Nat → Nat} (h : Own k E w base v n f) (u : Up w w') : Own k E w' base v n f := h.below u (Nat.le_refl _)

theorem up_alloc (w : World) (o : Obj) : Up w (w.alloc o) := below_alloc w o

theorem Up.blk {W w1 : World} {g : Nat} {o : Obj} (u : Up W w1) (h : W.heap[g]? = some o) : w1.heap[g]? = some o :=
  (Below.block u g (Array.getElem?_eq_some_iff.1 h).1).trans h

theorem Sl.rd {k : IntKind} {w : World} {ao : Option Addr} {n cap : Nat} {f : Nat → Nat} (h : Sl k w (.slice ao n cap) n f) : Rd k w ao n f ∧ n ≤ cap ∧ cap ≤ 9223372036854775807 := by
  obtain ⟨ao', cap', e, h1, h2, h0, h3⟩ := h
  cases e
  exact ⟨h3, h1, h2⟩

end Go.Proofs.Ytilcigjhogcjkaa

