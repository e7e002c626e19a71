/-
  What is proved here: what package check looks at, as it lies in memory; whether there is what an operand numbers; whether a primitive takes so many arguments.
-/
import Derived.Test.YtmogglmofbbjlaaKPrims
import Derived.Test.YtmogglmofbbjlaaKTake
namespace Go.Proofs.Ytmogglmofbbjlaa
open Go Go.RowKit

/-- Where the parts of a proto lie. -/
structure Hd where
  nm : ByteArray
  co : Option Addr
  cc : Nat
  ka : Option Addr
  kc : Nat
  na : Option Addr
  nc : Nat

/-- The cells of what is found of a proto. -/
def foC (cb num : Nat) (p : PR) (q : Hd) (dv tv : Value) : Array Value :=
  #[.string q.nm, .int .i64 p.args, .int .i64 p.free, .bool p.rest, .slice q.co p.len q.cc, .slice q.ka p.nc q.kc, .slice q.na p.nn q.nc, .pointer (some ⟨cb, 0, none⟩), .int .i64 (num : Int), dv, tv]
/-- The cells of a checker. -/
def chC (sl : Value) (pb : Nat) : Array Value := #[sl, .slice (some ⟨pb, 0, none⟩) 92 92] ++ cN

/-- Numbers of a proto are ints. -/
structure PB (p : PR) (q : Hd) : Prop where
  a1 : -9223372036854775808 ≤ p.args
  a2 : p.args ≤ 9223372036854775807
  f1 : -9223372036854775808 ≤ p.free
  f2 : p.free ≤ 9223372036854775807
  c1 : p.len ≤ q.cc
  c2 : q.cc ≤ 9223372036854775807
  k1 : p.nc ≤ 9223372036854775807
  n1 : p.nn ≤ 9223372036854775807
  o : ∀ j, j < p.len → -9223372036854775808 ≤ p.op j ∧ p.op j ≤ 9223372036854775807
  a : ∀ j, j < p.len → -9223372036854775808 ≤ p.a j ∧ p.a j ≤ 9223372036854775807
  b : ∀ j, j < p.len → -9223372036854775808 ≤ p.b j ∧ p.b j ≤ 9223372036854775807
/-- The instructions lie there. -/
def CodeAt (w : World) (co : Option Addr) (p : PR) : Prop :=
  p.len = 0 ∨ ∃ g off, co = some ⟨g, off, none⟩ ∧ ∀ j, j < p.len → w.cell? ⟨g, off + j * 3, none⟩ = some (.int .i64 (p.op j)) ∧ w.cell? ⟨g, off + j * 3 + 1, none⟩ = some (.int .i64 (p.a j)) ∧ w.cell? ⟨g, off + j * 3 + 2, none⟩ = some (.int .i64 (p.b j))
/-- How many values the closures of all protos have, in memory. -/
def FreesAt (w : World) (so : Option Addr) (np : Nat) (fr : Nat → Int) : Prop :=
  np = 0 ∨ ∃ g off, so = some ⟨g, off, none⟩ ∧ ∀ j, j < np → w.cell? ⟨g, off + j * 7 + 2, none⟩ = some (.int .i64 (fr j))
/-- The checker: the protos, the primitives, the needs. -/
structure ChAt (w : World) (cb pb : Nat) (so : Option Addr) (np sc : Nat) (fr : Nat → Int) : Prop where
  ch : w.heap[cb]? = some (.cells (chC (.slice so np sc) pb) 69 (0, 0))
  pr : w.heap[pb]? = some (.cells cP 79 (0, 0))
  fr : FreesAt w so np fr
  s1 : np ≤ sc
  s2 : sc ≤ 9223372036854775807
/-- What is looked at of a proto. -/
structure Rdy (w : World) (fb cb pb : Nat) (so : Option Addr) (np sc : Nat) (fr : Nat → Int) (num : Nat) (p : PR) (q : Hd) (dv tv : Value) : Prop where
  fo : w.heap[fb]? = some (.cells (foC cb num p q dv tv) 60 (0, 0))
  ch : ChAt w cb pb so np sc fr
  co : CodeAt w q.co p
  pb : PB p q

theorem CodeAt.up {w w' : World} {co : Option Addr} {p : PR} (h : CodeAt w co p) (hc : ∀ g o, (∃ u, w.cell? ⟨g, o, none⟩ = some u) → w'.heap[g]? = w.heap[g]?) : CodeAt w' co p := by
  rcases h with h | ⟨g, off, rfl, h⟩
  · exact .inl h
  · by_cases hz : p.len = 0
    · exact .inl hz
    · have := hc g off ⟨_, by have := (h 0 (by omega)).1; simpa using this⟩
      exact .inr ⟨g, off, rfl, fun j hj => ⟨(World.cell?_of_block this).trans (h j hj).1, (World.cell?_of_block this).trans (h j hj).2.1, (World.cell?_of_block this).trans (h j hj).2.2⟩⟩
theorem FreesAt.up {w w' : World} {so : Option Addr} {np : Nat} {fr : Nat → Int} (h : FreesAt w so np fr) (hc : ∀ g o, (∃ u, w.cell? ⟨g, o, none⟩ = some u) → w'.heap[g]? = w.heap[g]?) : FreesAt w' so np fr := by
  rcases h with h | ⟨g, off, rfl, h⟩
  · exact .inl h
  · by_cases hz : np = 0
    · exact .inl hz
    · have := hc g (off + 2) ⟨_, by have := h 0 (by omega); simpa using this⟩
      exact .inr ⟨g, off, rfl, fun j hj => (World.cell?_of_block this).trans (h j hj)⟩

theorem cell_row {w : World} {b i : Nat} {c : Array Value} {T : TypeId} {v : Value} (h : w.heap[b]? = some (.cells c T (0, 0))) (hv : c[i]? = some v) : w.cell? ⟨b, i, none⟩ = some v := by
  rw [cell_of_row w b i c T (0, 0) h]; exact hv
theorem chC_0 (sl : Value) (pb : Nat) : (chC sl pb)[0]? = some sl := by
  unfold chC
  rw [Array.getElem?_append_left (by simp)]
  rfl
theorem chC_1 (sl : Value) (pb : Nat) : (chC sl pb)[1]? = some (.slice (some ⟨pb, 0, none⟩) 92 92) := by
  unfold chC
  rw [Array.getElem?_append_left (by simp)]
  rfl
theorem chC_need (sl : Value) (pb i : Nat) : (chC sl pb)[2 + i]? = cN[i]? := by
  unfold chC
  rw [Array.getElem?_append_right (by simp)]
  simp
/-- The needs of an instruction, as they lie in a checker. -/
theorem ChAt.need {w : World} {cb pb : Nat} {so : Option Addr} {np sc : Nat} {fr : Nat → Int} (h : ChAt w cb pb so np sc fr) {k : Nat} (hk : k < 22) :
    w.cell? ⟨cb, 2 + k * 5, none⟩ = some (.int .i64 (nA k : Int)) ∧ w.cell? ⟨cb, 2 + k * 5 + 1, none⟩ = some (.int .i64 (nB k : Int)) ∧ w.cell? ⟨cb, 2 + k * 5 + 2, none⟩ = some (.int .i64 (nPop k : Int)) ∧ w.cell? ⟨cb, 2 + k * 5 + 3, none⟩ = some (.int .i64 (nPush k : Int)) ∧ w.cell? ⟨cb, 2 + k * 5 + 4, none⟩ = some (.bool (nEnd k)) := by
  obtain ⟨h1, h2, h3, h4, h5⟩ := cN_at k hk
  have e : ∀ j, 2 + k * 5 + j = 2 + (5 * k + j) := fun j => by omega
  refine ⟨cell_row h.ch ?_, cell_row h.ch ?_, cell_row h.ch ?_, cell_row h.ch ?_, cell_row h.ch ?_⟩
  · rw [show 2 + k * 5 = 2 + (5 * k) by omega, chC_need]; exact h1
  · rw [e, chC_need]; exact h2
  · rw [e, chC_need]; exact h3
  · rw [e, chC_need]; exact h4
  · rw [e, chC_need]; exact h5
def pName (k : Nat) : ByteArray := [⟨#[43]⟩, ⟨#[45]⟩, ⟨#[42]⟩, ⟨#[61]⟩, ⟨#[60]⟩, ⟨#[62]⟩, ⟨#[60, 61]⟩, ⟨#[62, 61]⟩, ⟨#[113, 117, 111, 116, 105, 101, 110, 116]⟩, ⟨#[114, 101, 109, 97, 105, 110, 100, 101, 114]⟩, ⟨#[109, 111, 100, 117, 108, 111]⟩, ⟨#[97, 98, 115]⟩, ⟨#[109, 105, 110]⟩, ⟨#[109, 97, 120]⟩, ⟨#[103, 99, 100]⟩, ⟨#[101, 120, 112, 116]⟩, ⟨#[122, 101, 114, 111, 63]⟩, ⟨#[112, 111, 115, 105, 116, 105, 118, 101, 63]⟩, ⟨#[110, 101, 103, 97, 116, 105, 118, 101, 63]⟩, ⟨#[111, 100, 100, 63]⟩, ⟨#[101, 118, 101, 110, 63]⟩, ⟨#[110, 117, 109, 98, 101, 114, 63]⟩, ⟨#[110, 117, 109, 98, 101, 114, 45, 62, 115, 116, 114, 105, 110, 103]⟩, ⟨#[115, 116, 114, 105, 110, 103, 45, 62, 110, 117, 109, 98, 101, 114]⟩, ⟨#[101, 113, 63]⟩, ⟨#[101, 113, 118, 63]⟩, ⟨#[101, 113, 117, 97, 108, 63]⟩, ⟨#[110, 111, 116]⟩, ⟨#[98, 111, 111, 108, 101, 97, 110, 63]⟩, ⟨#[110, 117, 108, 108, 63]⟩, ⟨#[112, 97, 105, 114, 63]⟩, ⟨#[108, 105, 115, 116, 63]⟩, ⟨#[115, 121, 109, 98, 111, 108, 63]⟩, ⟨#[115, 116, 114, 105, 110, 103, 63]⟩, ⟨#[99, 104, 97, 114, 63]⟩, ⟨#[118, 101, 99, 116, 111, 114, 63]⟩, ⟨#[112, 114, 111, 99, 101, 100, 117, 114, 101, 63]⟩, ⟨#[99, 111, 110, 115]⟩, ⟨#[99, 97, 114]⟩, ⟨#[99, 100, 114]⟩, ⟨#[115, 101, 116, 45, 99, 97, 114, 33]⟩, ⟨#[115, 101, 116, 45, 99, 100, 114, 33]⟩, ⟨#[108, 105, 115, 116]⟩, ⟨#[108, 101, 110, 103, 116, 104]⟩, ⟨#[97, 112, 112, 101, 110, 100]⟩, ⟨#[114, 101, 118, 101, 114, 115, 101]⟩, ⟨#[108, 105, 115, 116, 45, 114, 101, 102]⟩, ⟨#[108, 105, 115, 116, 45, 116, 97, 105, 108]⟩, ⟨#[109, 101, 109, 113]⟩, ⟨#[109, 101, 109, 118]⟩, ⟨#[109, 101, 109, 98, 101, 114]⟩, ⟨#[97, 115, 115, 113]⟩, ⟨#[97, 115, 115, 118]⟩, ⟨#[97, 115, 115, 111, 99]⟩, ⟨#[118, 101, 99, 116, 111, 114]⟩, ⟨#[109, 97, 107, 101, 45, 118, 101, 99, 116, 111, 114]⟩, ⟨#[118, 101, 99, 116, 111, 114, 45, 108, 101, 110, 103, 116, 104]⟩, ⟨#[118, 101, 99, 116, 111, 114, 45, 114, 101, 102]⟩, ⟨#[118, 101, 99, 116, 111, 114, 45, 115, 101, 116, 33]⟩, ⟨#[118, 101, 99, 116, 111, 114, 45, 62, 108, 105, 115, 116]⟩, ⟨#[108, 105, 115, 116, 45, 62, 118, 101, 99, 116, 111, 114]⟩, ⟨#[118, 101, 99, 116, 111, 114, 45, 102, 105, 108, 108, 33]⟩, ⟨#[115, 116, 114, 105, 110, 103, 45, 108, 101, 110, 103, 116, 104]⟩, ⟨#[115, 116, 114, 105, 110, 103, 45, 114, 101, 102]⟩, ⟨#[115, 116, 114, 105, 110, 103, 45, 97, 112, 112, 101, 110, 100]⟩, ⟨#[115, 117, 98, 115, 116, 114, 105, 110, 103]⟩, ⟨#[115, 116, 114, 105, 110, 103, 61, 63]⟩, ⟨#[115, 116, 114, 105, 110, 103, 60, 63]⟩, ⟨#[115, 116, 114, 105, 110, 103, 45, 62, 108, 105, 115, 116]⟩, ⟨#[108, 105, 115, 116, 45, 62, 115, 116, 114, 105, 110, 103]⟩, ⟨#[115, 116, 114, 105, 110, 103, 45, 62, 115, 121, 109, 98, 111, 108]⟩, ⟨#[115, 121, 109, 98, 111, 108, 45, 62, 115, 116, 114, 105, 110, 103]⟩, ⟨#[99, 104, 97, 114, 45, 62, 105, 110, 116, 101, 103, 101, 114]⟩, ⟨#[105, 110, 116, 101, 103, 101, 114, 45, 62, 99, 104, 97, 114]⟩, ⟨#[99, 104, 97, 114, 61, 63]⟩, ⟨#[99, 104, 97, 114, 60, 63]⟩, ⟨#[119, 114, 105, 116, 101]⟩, ⟨#[100, 105, 115, 112, 108, 97, 121]⟩, ⟨#[110, 101, 119, 108, 105, 110, 101]⟩, ⟨#[119, 114, 105, 116, 101, 45, 99, 104, 97, 114]⟩, ⟨#[99, 111, 110, 100, 105, 116, 105, 111, 110, 63]⟩, ⟨#[99, 111, 110, 100, 105, 116, 105, 111, 110, 45, 99, 108, 97, 115, 115]⟩, ⟨#[99, 111, 110, 100, 105, 116, 105, 111, 110, 45, 109, 101, 115, 115, 97, 103, 101]⟩, ⟨#[99, 111, 110, 100, 105, 116, 105, 111, 110, 45, 105, 114, 114, 105, 116, 97, 110, 116, 115]⟩, ⟨#[118, 111, 105, 100]⟩, ⟨#[97, 112, 112, 108, 121]⟩, ⟨#[99, 97, 108, 108, 47, 99, 99]⟩, ⟨#[100, 121, 110, 97, 109, 105, 99, 45, 119, 105, 110, 100]⟩, ⟨#[119, 105, 116, 104, 45, 101, 120, 99, 101, 112, 116, 105, 111, 110, 45, 104, 97, 110, 100, 108, 101, 114]⟩, ⟨#[114, 97, 105, 115, 101]⟩, ⟨#[114, 97, 105, 115, 101, 45, 99, 111, 110, 116, 105, 110, 117, 97, 98, 108, 101]⟩, ⟨#[101, 114, 114, 111, 114]⟩].getD k ⟨#[]⟩
def isI (o : Option Value) (y : Int) : Bool := match o with | some (.int .i64 x) => x == y | _ => false
def isS (o : Option Value) (y : ByteArray) : Bool := match o with | some (.string x) => decide (x.data.toList = y.data.toList) | _ => false
theorem isI_of {o : Option Value} {y : Int} (h : isI o y = true) : o = some (.int .i64 y) := by
  unfold isI at h
  split at h
  · simp at h; rw [h]
  · cases h
theorem isS_of {o : Option Value} {y : ByteArray} (h : isS o y = true) : o = some (.string y) := by
  unfold isS at h
  split at h
  · rename_i x
    obtain ⟨⟨a⟩⟩ := x
    obtain ⟨⟨b⟩⟩ := y
    have e : a = b := of_decide_eq_true h
    rw [e]
  · cases h
theorem primOk : ((List.range 92).all fun k => isS cP[k * 3]? (pName k) && (isI cP[k * 3 + 1]? (pLeast k) && isI cP[k * 3 + 2]? (pMost k))) = true := by decide +kernel
theorem cP_at {k : Nat} (hk : k < 92) : cP[k * 3]? = some (.string (pName k)) ∧ cP[k * 3 + 1]? = some (.int .i64 (pLeast k)) ∧ cP[k * 3 + 2]? = some (.int .i64 (pMost k)) := by
  have := List.all_eq_true.1 primOk k (List.mem_range.2 hk)
  simp only [Bool.and_eq_true] at this
  exact ⟨isS_of this.1, isI_of this.2.1, isI_of this.2.2⟩
theorem pB_ok : ((List.range 92).all fun k => decide (0 ≤ pLeast k) && (decide (pLeast k ≤ 3) && (decide (-1 ≤ pMost k) && decide (pMost k ≤ 3)))) = true := by decide +kernel
theorem pB_at {k : Nat} (hk : k < 92) : 0 ≤ pLeast k ∧ pLeast k ≤ 3 ∧ -1 ≤ pMost k ∧ pMost k ≤ 3 := by
  have := List.all_eq_true.1 pB_ok k (List.mem_range.2 hk)
  simpa using this

set_option maxRecDepth 20000 in
set_option maxHeartbeats 1000000 in
theorem takes_any (w : World) (cb pb : Nat) (so : Option Addr) (np sc : Nat) (fr : Nat → Int) (k : Nat) (b : Int) (h : ChAt w cb pb so np sc fr) (hk : k < 92) (_hb1 : -9223372036854775808 ≤ b) (_hb2 : b ≤ 9223372036854775807) :
    Calls Try.prog 40 #[.pointer (some ⟨cb, 0, none⟩), .int .i64 (k : Int), .int .i64 b] w fun e w' => e = .returned (.bool (takesM (k : Int) b)) ∧ Fr (fun _ => False) w w' := by
  have c1 : w.cell? ⟨cb, 1, none⟩ = some (.slice (some ⟨pb, 0, none⟩) 92 92) := cell_row h.ch (chC_1 _ _)
  obtain ⟨e0, e1, e2⟩ := cP_at hk
  have p0 := cell_row h.pr e0
  have p1 := cell_row h.pr e1
  have p2 := cell_row h.pr e2
  obtain ⟨b1, b2, b3, b4⟩ := pB_at hk
  have ht : Hid (takesM (k : Int) b = (decide ((k : Int) < 85) && (decide (pLeast k ≤ b) && (decide (b ≤ pMost k) || decide (pMost k = -1))))) := rfl
  generalize takesM (k : Int) b = R at *
  generalize pName k = nm at *
  generalize pLeast k = L at *
  generalize pMost k = M at *
  have hcb : cb < w.heap.size := (Array.getElem?_eq_some_iff.1 h.ch).1
  clear h e0 e1 e2
  by_cases h1 : k < 85
  · have h1i : (k : Int) < 85 := by omega
    by_cases h2 : L ≤ b
    · by_cases h3 : b ≤ M
      · go_enter Try.func40, Try.ntmps40
        go_wp2
        go_ret
        exact ⟨retB (by rw [ht.out, Bool.eq_iff_iff]; simp <;> omega), (Fr.refl _ _).alloc _⟩
      · by_cases h4 : M = -1
        · subst h4
          go_enter Try.func40, Try.ntmps40
          go_wp2
          go_ret
          exact ⟨retB (by rw [ht.out, Bool.eq_iff_iff]; simp <;> omega), (Fr.refl _ _).alloc _⟩
        · have h4b : (M == -1) = false := by rw [beq_eq_false_iff_ne]; exact h4
          go_enter Try.func40, Try.ntmps40
          go_wp2
          go_ret
          exact ⟨retB (by rw [ht.out, Bool.eq_iff_iff]; simp <;> omega), (Fr.refl _ _).alloc _⟩
    · go_enter Try.func40, Try.ntmps40
      go_wp2
      go_ret
      exact ⟨retB (by rw [ht.out, Bool.eq_iff_iff]; simp <;> omega), (Fr.refl _ _).alloc _⟩
  · have h1i : ¬ (k : Int) < 85 := by omega
    go_enter Try.func40, Try.ntmps40
    go_wp2
    go_ret
    exact ⟨retB (by rw [ht.out, Bool.eq_iff_iff]; simp <;> omega), (Fr.refl _ _).alloc _⟩

theorem isThere_le {o : Nat} (h1 : o ≠ 1) (h3 : o ≠ 3) (h4 : o ≠ 4) (h5 : o ≠ 5) (h6 : o ≠ 6) (h8 : o ≠ 8) (h9 : o ≠ 9) (np : Nat) (p : PR) (x : Int) : thr np p o x = true := by
  unfold thr
  rw [if_neg h1, if_neg h3, if_neg h4, if_neg h5, if_neg h6, if_neg h8, if_neg h9]
set_option maxRecDepth 20000 in
set_option maxHeartbeats 1000000 in
theorem isThere_any (w : World) (fb cb pb : Nat) (so : Option Addr) (np sc : Nat) (fr : Nat → Int) (num : Nat) (p : PR) (q : Hd) (dv tv : Value) (h : Rdy w fb cb pb so np sc fr num p q dv tv) (hf0 : 0 ≤ p.free) (o : Nat) (x : Int) :
    Calls Try.prog 39 #[.pointer (some ⟨fb, 0, none⟩), .int .i64 (o : Int), .int .i64 x] w fun e w' => e = .returned (.bool (thr np p o x)) ∧ w' = w := by
  have c2 : w.cell? ⟨fb, 2, none⟩ = some (.int .i64 p.free) := cell_row h.fo rfl
  have c5 : w.cell? ⟨fb, 5, none⟩ = some (.slice q.ka p.nc q.kc) := cell_row h.fo rfl
  have c6 : w.cell? ⟨fb, 6, none⟩ = some (.slice q.na p.nn q.nc) := cell_row h.fo rfl
  have c7 : w.cell? ⟨fb, 7, none⟩ = some (.pointer (some ⟨cb, 0, none⟩)) := cell_row h.fo rfl
  have d0 : w.cell? ⟨cb, 0, none⟩ = some (.slice so np sc) := cell_row h.ch.ch (chC_0 _ _)
  have d1 : w.cell? ⟨cb, 1, none⟩ = some (.slice (some ⟨pb, 0, none⟩) 92 92) := cell_row h.ch.ch (chC_1 _ _)
  have b1 := h.pb.k1
  have b2 := h.pb.n1
  have b3 := h.pb.f2
  have b4 := h.ch.s1
  have b5 := h.ch.s2
  clear h
  by_cases h1 : o = 1
  · subst h1
    rw [show thr np p 1 x = isIn x 0 ((p.nc : Int) - 1) from rfl]
    go_enter Try.func39, Try.ntmps39
    go_wp2_with (go_at_call 30; refine (within_any _ _ _ _).mono ?_; rintro e w' ⟨rfl, rfl⟩)
    go_ret
    exact ⟨rfl, rfl⟩
  by_cases h3 : o = 3
  · subst h3
    rw [show thr np p 3 x = isIn x 0 (p.free - 1) from rfl]
    go_enter Try.func39, Try.ntmps39
    go_wp2_with (go_at_call 30; refine (within_any _ _ _ _).mono ?_; rintro e w' ⟨rfl, rfl⟩)
    go_ret
    exact ⟨rfl, rfl⟩
  by_cases h4 : o = 4
  · subst h4
    rw [show thr np p 4 x = isIn x 0 ((p.nn : Int) - 1) from rfl]
    go_enter Try.func39, Try.ntmps39
    go_wp2_with (go_at_call 30; refine (within_any _ _ _ _).mono ?_; rintro e w' ⟨rfl, rfl⟩)
    go_ret
    exact ⟨rfl, rfl⟩
  by_cases h5 : o = 5
  · subst h5
    rw [show thr np p 5 x = isIn x 0 ((np : Int) - 1) from rfl]
    go_enter Try.func39, Try.ntmps39
    go_wp2_with (go_at_call 30; refine (within_any _ _ _ _).mono ?_; rintro e w' ⟨rfl, rfl⟩)
    go_ret
    exact ⟨rfl, rfl⟩
  by_cases h6 : o = 6
  · subst h6
    rw [show thr np p 6 x = isIn x 0 91 from rfl]
    go_enter Try.func39, Try.ntmps39
    go_wp2_with (go_at_call 30; refine (within_any _ _ _ _).mono ?_; rintro e w' ⟨rfl, rfl⟩)
    go_ret
    exact ⟨rfl, rfl⟩
  by_cases h8 : o = 8
  · subst h8
    rw [show thr np p 8 x = isIn x 0 64 from rfl]
    go_enter Try.func39, Try.ntmps39
    go_wp2_with (go_at_call 30; refine (within_any _ _ _ _).mono ?_; rintro e w' ⟨rfl, rfl⟩)
    go_ret
    exact ⟨rfl, rfl⟩
  by_cases h9 : o = 9
  · subst h9
    rw [show thr np p 9 x = isIn x 0 4096 from rfl]
    go_enter Try.func39, Try.ntmps39
    go_wp2_with (go_at_call 30; refine (within_any _ _ _ _).mono ?_; rintro e w' ⟨rfl, rfl⟩)
    go_ret
    exact ⟨rfl, rfl⟩
  rw [isThere_le h1 h3 h4 h5 h6 h8 h9]
  have e1 : ((o : Int) == 1) = false := by rw [beq_eq_false_iff_ne]; omega
  have e3 : ((o : Int) == 3) = false := by rw [beq_eq_false_iff_ne]; omega
  have e4 : ((o : Int) == 4) = false := by rw [beq_eq_false_iff_ne]; omega
  have e5 : ((o : Int) == 5) = false := by rw [beq_eq_false_iff_ne]; omega
  have e6 : ((o : Int) == 6) = false := by rw [beq_eq_false_iff_ne]; omega
  have e8 : ((o : Int) == 8) = false := by rw [beq_eq_false_iff_ne]; omega
  have e9 : ((o : Int) == 9) = false := by rw [beq_eq_false_iff_ne]; omega
  clear h1 h3 h4 h5 h6 h8 h9
  go_enter Try.func39, Try.ntmps39
  go_wp2
  go_ret
  exact ⟨rfl, rfl⟩

end Go.Proofs.Ytmogglmofbbjlaa
