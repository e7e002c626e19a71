/-
  What is proved here: the two heaps, holding the same words, answer alike: Get, Raw, Set, SetRaw, Alloc; no walk.
-/
import Derived.Test.YtfeofdeffmnbkaaHOnNew
import Derived.Test.YtfeofdeffmnbkaaHRefNo
namespace Go.Proofs.Ytfeofdeffmnbkaa
open Go Go.RowKit

/-- A field that is there, or is not. -/
theorem field_cases (t : Nat → Nat) (f : Nat → Nat) (st : Nat → Bool) (x : Nat) (j : Int) (ht : t 0 = 0) : (j < 0 ∨ (t (headOf f st x) : Int) ≤ j) ∨ ∃ i : Nat, j = (i : Int) ∧ isPtr st x = true ∧ i < t (f (x / 4)) := by
  by_cases h : j < 0 ∨ (t (headOf f st x) : Int) ≤ j
  · exact .inl h
  · refine .inr ⟨j.toNat, by omega, ?_⟩
    cases hc : isPtr st x with
    | true =>
      rw [headOf_yes hc] at h
      exact ⟨rfl, by omega⟩
    | false =>
      rw [headOf_no hc, ht] at h
      omega

theorem get_both (n : Nat) (f : Nat → Nat) (st : Nat → Bool) (x : Nat) (j : Int) (hx : x < 18446744073709551616) :
    ∃ (a : Nat) (b : Bool), (∀ w hb X sz tm, HeapAt w hb X sz tm n f st → Calls Try.prog 32 #[.pointer (some ⟨hb, 0, none⟩), .int .u64 (x : Int), .int .i64 j] w fun e w' => e = .returned (.tuple #[.int .u64 (a : Int), .bool b]) ∧ ∃ q, w' = w.drewN q)
      ∧ (∀ w rb Y sz tm, RefAt w rb Y sz tm n f st → Calls Try.prog 39 #[.pointer (some ⟨rb, 0, none⟩), .int .u64 (x : Int), .int .i64 j] w fun e w' => e = .returned (.tuple #[.int .u64 (a : Int), .bool b]) ∧ ∃ q, w' = w.drewN q) := by
  rcases field_cases hTag f st x j rfl with h | ⟨i, rfl, hc, hi⟩
  · exact ⟨0, false, fun w hb X sz tm hH => geth_out w hb X sz tm n f st x j hH hx h, fun w rb Y sz tm hR => (rget_out w rb Y sz tm n f st x j hR hx h).mono fun e w' he => ⟨he.1, 0, he.2⟩⟩
  · exact ⟨_, true, fun w hb X sz tm hH => geth_in w hb X sz tm n f st x i hH hx hc hi, fun w rb Y sz tm hR => (rget_in w rb Y sz tm n f st x i hR hx hc hi).mono fun e w' he => ⟨he.1, 0, he.2⟩⟩
theorem raw_both (n : Nat) (f : Nat → Nat) (st : Nat → Bool) (x : Nat) (j : Int) (hx : x < 18446744073709551616) :
    ∃ (a : Nat) (b : Bool), (∀ w hb X sz tm, HeapAt w hb X sz tm n f st → Calls Try.prog 33 #[.pointer (some ⟨hb, 0, none⟩), .int .u64 (x : Int), .int .i64 j] w fun e w' => e = .returned (.tuple #[.int .u64 (a : Int), .bool b]) ∧ ∃ q, w' = w.drewN q)
      ∧ (∀ w rb Y sz tm, RefAt w rb Y sz tm n f st → Calls Try.prog 40 #[.pointer (some ⟨rb, 0, none⟩), .int .u64 (x : Int), .int .i64 j] w fun e w' => e = .returned (.tuple #[.int .u64 (a : Int), .bool b]) ∧ ∃ q, w' = w.drewN q) := by
  rcases field_cases hRaw f st x j rfl with h | ⟨i, rfl, hc, hi⟩
  · exact ⟨0, false, fun w hb X sz tm hH => rawh_out w hb X sz tm n f st x j hH hx h, fun w rb Y sz tm hR => (rraw_out w rb Y sz tm n f st x j hR hx h).mono fun e w' he => ⟨he.1, 0, he.2⟩⟩
  · exact ⟨_, true, fun w hb X sz tm hH => rawh_in w hb X sz tm n f st x i hH hx hc hi, fun w rb Y sz tm hR => rraw_in w rb Y sz tm n f st x i hR hx hc hi⟩

theorem HeapAt.idle {w w' : World} {hb : Nat} {X : Nat → Prop} {sz : Nat} {tm : Int} {n : Nat} {f : Nat → Nat} {st : Nat → Bool} (h : HeapAt w hb X sz tm n f st) (hw : ∃ q, w' = w.drewN q) : HeapAt w' hb X sz tm n f st ∧ Fr X w w' := by
  obtain ⟨q, rfl⟩ := hw
  exact ⟨h.drewN q, (Fr.refl _ _).drewN q⟩
theorem RefAt.idle {w w' : World} {rb : Nat} {Y : Nat → Prop} {sz : Nat} {tm : Int} {n : Nat} {f : Nat → Nat} {st : Nat → Bool} (h : RefAt w rb Y sz tm n f st) (hw : ∃ q, w' = w.drewN q) : RefAt w' rb Y sz tm n f st ∧ Fr Y w w' := by
  obtain ⟨q, rfl⟩ := hw
  exact ⟨h.drewN q, (Fr.refl _ _).drewN q⟩

/-- A word is set: nothing turns, or one tagged field of an object does. -/
def SetStep (f : Nat → Nat) (st : Nat → Bool) (f' : Nat → Nat) : Prop := f' = f ∨ ∃ x i y, isPtr st x = true ∧ i < hTag (f (x / 4)) ∧ may st y = true ∧ f' = upd f (x / 4 + 1 + i) y
/-- A raw word is set: nothing turns, or one raw field of an object does. -/
def RawStep (f : Nat → Nat) (st : Nat → Bool) (f' : Nat → Nat) : Prop := f' = f ∨ ∃ x i y, isPtr st x = true ∧ i < hRaw (f (x / 4)) ∧ f' = upd f (x / 4 + 1 + hTag (f (x / 4)) + i) y
/-- An object is laid, or none is. -/
def LayStep (sz n : Nat) (f : Nat → Nat) (st : Nat → Bool) (a : Nat) (b : Bool) (n' : Nat) (f' : Nat → Nat) (st' : Nat → Bool) : Prop :=
  (b = false ∧ n' = n ∧ f' = f ∧ st' = st) ∨ (b = true ∧ a = 4 * n ∧ ∃ k t r, 1 ≤ k ∧ k ≤ 63 ∧ t ≤ 1048576 ∧ r ≤ 1048576 ∧ n + 1 + t + r ≤ sz ∧ n' = n + 1 + t + r ∧ f' = laid f n (hOf k t r) ∧ st' = also st n)

theorem set_both (n : Nat) (f : Nat → Nat) (st : Nat → Bool) (x : Nat) (j : Int) (y : Nat) (hx : x < 18446744073709551616) (hy : y < 18446744073709551616) :
    ∃ (b : Bool) (f' : Nat → Nat), SetStep f st f' ∧ (∀ w hb X sz tm, HeapAt w hb X sz tm n f st → Calls Try.prog 30 #[.pointer (some ⟨hb, 0, none⟩), .int .u64 (x : Int), .int .i64 j, .int .u64 (y : Int)] w fun e w' => e = .returned (.bool b) ∧ HeapAt w' hb X sz tm n f' st ∧ Fr X w w')
      ∧ (∀ w rb Y sz tm, RefAt w rb Y sz tm n f st → Calls Try.prog 37 #[.pointer (some ⟨rb, 0, none⟩), .int .u64 (x : Int), .int .i64 j, .int .u64 (y : Int)] w fun e w' => e = .returned (.bool b) ∧ RefAt w' rb Y sz tm n f' st ∧ Fr Y w w') := by
  rcases field_cases hTag f st x j rfl with h | ⟨i, rfl, hc, hi⟩
  · exact ⟨false, f, .inl rfl, fun w hb X sz tm hH => (set_no w hb X sz tm n f st x j y hH hx hy h).mono fun e w' he => ⟨he.1, hH.idle he.2⟩, fun w rb Y sz tm hR => (rset_no w rb Y sz tm n f st x j y hR hx h).mono fun e w' he => ⟨he.1, hR.idle ⟨0, he.2⟩⟩⟩
  · cases hm : may st y with
    | true => exact ⟨true, _, .inr ⟨x, i, y, hc, hi, hm, rfl⟩, fun w hb X sz tm hH => set_yes w hb X sz tm n f st x i y hH hx hy hc hi hm, fun w rb Y sz tm hR => rset_yes w rb Y sz tm n f st x i y hR hx hy hc hi hm⟩
    | false => exact ⟨false, f, .inl rfl, fun w hb X sz tm hH => (set_bar w hb X sz tm n f st x i y hH hx hy hc hi hm).mono fun e w' he => ⟨he.1, hH.idle he.2⟩, fun w rb Y sz tm hR => (rset_bar w rb Y sz tm n f st x i y hR hx hy hc hi hm).mono fun e w' he => ⟨he.1, hR.idle ⟨0, he.2⟩⟩⟩
theorem setRaw_both (n : Nat) (f : Nat → Nat) (st : Nat → Bool) (x : Nat) (j : Int) (y : Nat) (hx : x < 18446744073709551616) (hy : y < 18446744073709551616) :
    ∃ (b : Bool) (f' : Nat → Nat), RawStep f st f' ∧ (∀ w hb X sz tm, HeapAt w hb X sz tm n f st → Calls Try.prog 31 #[.pointer (some ⟨hb, 0, none⟩), .int .u64 (x : Int), .int .i64 j, .int .u64 (y : Int)] w fun e w' => e = .returned (.bool b) ∧ HeapAt w' hb X sz tm n f' st ∧ Fr X w w')
      ∧ (∀ w rb Y sz tm, RefAt w rb Y sz tm n f st → Calls Try.prog 38 #[.pointer (some ⟨rb, 0, none⟩), .int .u64 (x : Int), .int .i64 j, .int .u64 (y : Int)] w fun e w' => e = .returned (.bool b) ∧ RefAt w' rb Y sz tm n f' st ∧ Fr Y w w') := by
  rcases field_cases hRaw f st x j rfl with h | ⟨i, rfl, hc, hi⟩
  · exact ⟨false, f, .inl rfl, fun w hb X sz tm hH => (setRaw_no w hb X sz tm n f st x j y hH hx h).mono fun e w' he => ⟨he.1, hH.idle he.2⟩, fun w rb Y sz tm hR => (rsetRaw_no w rb Y sz tm n f st x j y hR hx h).mono fun e w' he => ⟨he.1, hR.idle ⟨0, he.2⟩⟩⟩
  · exact ⟨true, _, .inr ⟨x, i, y, hc, hi, rfl⟩, fun w hb X sz tm hH => setRaw_yes w hb X sz tm n f st x i y hH hx hy hc hi, fun w rb Y sz tm hR => rsetRaw_yes w rb Y sz tm n f st x i y hR hx hy hc hi⟩

theorem alloc_both (sz n : Nat) (f : Nat → Nat) (st : Nat → Bool) (k t r : Int) :
    ∃ (a : Nat) (b : Bool) (n' : Nat) (f' : Nat → Nat) (st' : Nat → Bool), LayStep sz n f st a b n' f' st' ∧ (n ≤ 1048576 → a < 18446744073709551616) ∧ (∀ w hb X tm, HeapAt w hb X sz tm n f st → Calls Try.prog 24 #[.pointer (some ⟨hb, 0, none⟩), .int .i64 k, .int .i64 t, .int .i64 r] w fun e w' => e = .returned (.tuple #[.int .u64 (a : Int), .bool b]) ∧ ∃ X2, HeapAt w' hb X2 sz tm n' f' st' ∧ Grows w.heap.size X X2 ∧ Fr X w w')
      ∧ (∀ w rb Y tm, RefAt w rb Y sz tm n f st → Calls Try.prog 36 #[.pointer (some ⟨rb, 0, none⟩), .int .i64 k, .int .i64 t, .int .i64 r] w fun e w' => e = .returned (.tuple #[.int .u64 (a : Int), .bool b]) ∧ ∃ Y2, RefAt w' rb Y2 sz tm n' f' st' ∧ Grows w.heap.size Y Y2 ∧ Fr Y w w') := by
  by_cases hb0 : k < 1 ∨ 63 < k ∨ t < 0 ∨ 1048576 < t ∨ r < 0 ∨ 1048576 < r
  · exact ⟨0, false, n, f, st, .inl ⟨rfl, rfl, rfl, rfl⟩, fun _ => by decide, fun w hb X tm hH => (alloc_bad w hb X sz tm n f st k t r hH hb0).mono fun e w' he => ⟨he.1, X, (hH.idle he.2).1, Grows.refl _ _, (hH.idle he.2).2⟩, fun w rb Y tm hR => (ralloc_no w rb Y sz tm n f st k t r hR (by omega)).mono fun e w' he => ⟨he.1, Y, (hR.idle he.2).1, Grows.refl _ _, (hR.idle he.2).2⟩⟩
  · obtain ⟨k, rfl⟩ : ∃ q : Nat, k = (q : Int) := ⟨k.toNat, by omega⟩
    obtain ⟨t, rfl⟩ : ∃ q : Nat, t = (q : Int) := ⟨t.toNat, by omega⟩
    obtain ⟨r, rfl⟩ : ∃ q : Nat, r = (q : Int) := ⟨r.toNat, by omega⟩
    by_cases hroom : n + 1 + t + r ≤ sz
    · exact ⟨4 * n, true, _, _, _, .inr ⟨rfl, rfl, k, t, r, by omega, by omega, by omega, by omega, hroom, rfl, rfl, rfl⟩, fun hn => by omega, fun w hb X tm hH => alloc_yes w hb X sz tm n f st k t r hH (by omega) (by omega) (by omega) (by omega) hroom, fun w rb Y tm hR => ralloc_yes w rb Y sz tm n f st k t r hR (by omega) (by omega) (by omega) (by omega) hroom⟩
    · exact ⟨0, false, n, f, st, .inl ⟨rfl, rfl, rfl, rfl⟩, fun _ => by decide, fun w hb X tm hH => (alloc_full w hb X sz tm n f st k t r hH (by omega) (by omega) (by omega) (by omega) (by omega)).mono fun e w' he => ⟨he.1, X, (hH.idle he.2).1, Grows.refl _ _, (hH.idle he.2).2⟩, fun w rb Y tm hR => (ralloc_no w rb Y sz tm n f st k t r hR (by omega)).mono fun e w' he => ⟨he.1, Y, (hR.idle he.2).1, Grows.refl _ _, (hR.idle he.2).2⟩⟩

end Go.Proofs.Ytfeofdeffmnbkaa
