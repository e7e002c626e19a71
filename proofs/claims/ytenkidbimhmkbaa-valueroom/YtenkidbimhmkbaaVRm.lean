/-
  What is proved here: what the statement ValueRoom hands over; no walk.
-/
import Derived.Test.YtenkidbimhmkbaaVList
import Derived.Test.YtenkidbimhmkbaaVTextN
import Derived.Test.YtenkidbimhmkbaaVAwake
import Derived.Test.YtenkidbimhmkbaaHSameW
import Derived.Test.YtenkidbimhmkbaaSlI
namespace Go.Proofs.Ytenkidbimhmkbaa
open Go Go.RowKit

/-- The words that the statement makes of numbers. -/
def roomW (g : Nat → Int) (i : Nat) : Nat := (fixW ((g i).tmod 1000)).toNat
theorem roomW_fix (g : Nat → Int) (k : Nat) : fixW ((g k).tmod 1000) = (roomW g k : Int) := by
  unfold roomW fixW
  rw [Int.toNat_of_nonneg (by omega)]
theorem roomW_lt (g : Nat → Int) (i : Nat) : roomW g i < 18446744073709551616 := by
  unfold roomW fixW
  omega
theorem roomW_may (g : Nat → Int) (st : Nat → Bool) (i : Nat) : may st (roomW g i) = true := by
  have : roomW g i % 4 = 1 := by unfold roomW fixW; omega
  exact may_1 (by omega) (by omega)
theorem tmod_range (x : Int) : -1000 < x.tmod 1000 ∧ x.tmod 1000 < 1000 := ⟨(place_num x 1000 (by decide)).2.2, Int.tmod_lt_of_pos x (by decide)⟩
theorem room_grow {w1 wr w9 : World} {v : Value} {k : Nat} {f : Nat → Nat} {o : Obj} (hO : Own .u64 22 wr w1.heap.size v k f) (hF : Fr (fun _ => False) w1 wr) (hg : (wr.alloc o).grownBy w9 v.ownBlock) : Fr (fun _ => False) w1 w9 :=
  (hF.alloc o).grow hg (fun j hj e => by
    rcases hO with ⟨rfl, _⟩ | ⟨b, cap, rfl, h1, _, _⟩
    · cases e
    · have e2 : b = j := by simpa [Value.ownBlock] using e
      omega)
theorem words_of_own {w1 wr : World} {X : Nat → Prop} {ao : Option Addr} {cap l : Nat} {r : Nat → Nat} (hO : Own .u64 22 wr w1.heap.size (.slice ao l cap) l r) (hX : ∀ {k}, X k → k < w1.heap.size) (hl : l ≤ 17592186044416) : ∃ b off, ¬ X b ∧ WordsV wr (.slice ao l cap) b off l r := by
  rcases hO with ⟨e, e2⟩ | ⟨b, c, e, h1, h2, h3⟩
  · exact ⟨w1.heap.size, 0, fun h => by have := hX h; omega, .inl ⟨_, _, by rw [e2], e2⟩⟩
  · cases e
    exact ⟨b, 0, fun h => by have := hX h; omega, .inr ⟨_, rfl, by omega, h3.lt, fun i hi => by rw [Nat.zero_add]; exact h3.cell hi⟩⟩
theorem WordsV.fr {w w' : World} {v : Value} {b off l : Nat} {r : Nat → Nat} (h : WordsV w v b off l r) (F : Fr (fun _ => False) w w') : WordsV w' v b off l r := by
  rcases h with e | ⟨c, e1, e2, e3, e4⟩
  · exact .inl e
  · exact .inr ⟨c, e1, e2, Nat.lt_of_lt_of_le e3 F.size, fun i hi => (F.cell e3 (fun e => e)).trans (e4 i hi)⟩
theorem own_rd {k : IntKind} {E : TypeId} {w : World} {base : Nat} {ao : Option Addr} {n cap : Nat} {f : Nat → Nat} (h : Own k E w base (.slice ao n cap) n f) : Rd k w ao n f := by
  rcases h with ⟨e, e2⟩ | ⟨b, c, e, h1, h2, h3⟩
  · exact .inl e2
  · cases e
    exact .inr ⟨b, 0, rfl, fun i hi => by rw [Nat.zero_add]; exact h3.cell hi⟩
theorem SymIn.frF {w w2 : World} {sb hb : Nat} {X : Nat → Prop} {vS : Value} {mb m : Nat} {sw : Nat → Nat} {nm : Nat → ByteArray} {sz : Nat} {tm : Int} {n : Nat} {f : Nat → Nat} {st : Nat → Bool} (h : SymIn w sb hb X vS mb m sw nm sz tm n f st) (hf : Fr (fun _ => False) w w2) : SymIn w2 sb hb X vS mb m sw nm sz tm n f st := h.fr hf (fun _ _ e => e)

end Go.Proofs.Ytenkidbimhmkbaa
