/-
  What is proved here: strings.HasPrefix; package read's tokenLength. package read's bytes and letter. package read's datum, at the beginning of a text and at a character. package read's One, at a text as it is written and at a character.
-/
import Derived.Test.YteipogfolnlblaaDoorWRC
import Derived.Test.YteipogfolnlblaaDoorWR1
import Derived.Test.YteipogfolnlblaaDoorWRA
import Derived.Test.YteipogfolnlblaaDoorWSh
import Derived.WalkMore
namespace Go.Proofs.YteipogfolnlblaaDoor
open Go Go.RowKit

set_option maxHeartbeats 1000000 in
set_option maxRecDepth 100000 in
theorem litePre_any (s p : ByteArray) (w : World) :
    Calls Tryd.prog 60 #[.string s, .string p] w fun e w' => e = .returned (.bool (Lib.hasPrefix s.data.toList p.data.toList)) ∧ w' = w := by
  rw [← Lib.hasPrefix_of_take, ← Lib.size_eq, ← Lib.size_eq]
  go_enter Tryd.func60, Tryd.ntmps60
  go_wp2
  · rename_i h
    go_ret
    refine ⟨?_, rfl⟩
    show Ending.returned (Value.bool ((s.extract 0 p.size).toList == p.toList)) = _
    rw [Lib.extract_toList, Lib.toList_data]
    simp [h]
  · rename_i h
    go_ret
    refine ⟨?_, rfl⟩
    show Ending.returned (Value.bool false) = _
    simp [h]

set_option maxHeartbeats 1000000 in
set_option maxRecDepth 100000 in
theorem prefix_any (s p : ByteArray) (w : World) :
    Calls Tryd.prog 42 #[.string s, .string p] w fun e w' => e = .returned (.bool (Lib.hasPrefix s.data.toList p.data.toList)) ∧ w' = w := by
  go_enter Tryd.func42, Tryd.ntmps42
  go_wp2_with (go_at_call 60; refine (litePre_any _ _ _).mono ?_; rintro e w' ⟨rfl, rfl⟩)
  go_ret
  exact ⟨rfl, rfl⟩

/-- Where a delimiter stands among the delimiters, or less than 0. -/
def dlx (c : UInt8) : Int := Lib.indexByte [32, 9, 10, 13, 40, 41, 34, 59, 39] c

/-- How many bytes there are ahead of a delimiter. -/
def tokL (l : List UInt8) : Nat := (l.takeWhile fun c => decide (dlx c < 0)).length

theorem tokL_le (l : List UInt8) : tokL l ≤ l.length := (List.takeWhile_sublist _).length_le

theorem tokL_at (l : List UInt8) (k : Nat) (hk : k < l.length) (h1 : ∀ i (h : i < l.length), i < k → dlx l[i] < 0) (h2 : ¬ dlx l[k] < 0) : tokL l = k := by
  induction l generalizing k with
  | nil => simp at hk
  | cons c l ih =>
    cases k with
    | zero =>
      have h3 : ¬ dlx c < 0 := h2
      simp [tokL, h3]
    | succ k =>
      have h3 : dlx c < 0 := h1 0 (by simp) (by omega)
      have h4 := ih k (by simpa using hk) (fun i hi hik => by have := h1 (i + 1) (by simpa using hi) (by omega); simpa using this) (by simpa using h2)
      simp only [tokL] at h4
      simp [tokL, h3, h4]

theorem tokL_all (l : List UInt8) (h1 : ∀ i (h : i < l.length), dlx l[i] < 0) : tokL l = l.length := by
  induction l with
  | nil => rfl
  | cons c l ih =>
    have h3 : dlx c < 0 := h1 0 (by simp)
    have h4 := ih (fun i hi => by have := h1 (i + 1) (by simpa using hi); simpa using this)
    simp only [tokL] at h4
    simp [tokL, h3, h4]

set_option maxHeartbeats 2000000 in
set_option maxRecDepth 100000 in
theorem tokenLength_any (s : ByteArray) (w : World) (hs : s.size ≤ 1000000000) :
    Calls Tryd.prog 62 #[.string s] w fun e w' => e = .returned (.int .i64 (tokL s.data.toList : Nat)) ∧ w' = w := by
  have KI : ∀ (c : UInt8) (W : World), Calls Tryd.prog 59 #[.string ⟨#[32, 9, 10, 13, 40, 41, 34, 59, 39]⟩, .int .u8 (c.toNat : Int)] W fun e w' => e = .returned (.int .i64 (dlx c)) ∧ w' = W := fun c W => index_any _ c W
  have HI := hide KI
  clear KI
  have hsI : (s.size : Int) ≤ 9223372036854775807 := by omega
  go_enter Tryd.func62, Tryd.ntmps62
  go_wp2_with fail
  go_loopw [6] (fun a6 wr => wr = w ∧ ∃ k : Nat, k ≤ s.size ∧ a6 = .int .i64 (k : Int) ∧ ∀ i (h : i < s.data.toList.length), i < k → dlx s.data.toList[i] < 0) (fun a6 _ => s.size - (intOf a6).toNat)
  case atStart => exact ⟨rfl, 0, Nat.zero_le _, rfl, fun i h hi => by omega⟩
  case round =>
    obtain ⟨rfl, k, hk, rfl, hb⟩ := hrel
    by_cases hlt : k < s.size
    · have hkI : (k : Int) < (s.size : Int) := by omega
      have hl : k < s.data.toList.length := by rw [bytes_len]; exact hlt
      have e4 : s[k] = s.data.toList[k] := by simp [ByteArray.getElem_eq_getElem_data]
      have HB := hide hb
      clear hb
      have HE := hide e4
      clear e4
      by_cases hn : dlx s[k] < 0
      · have hn' : ¬ (0 ≤ dlx s[k]) := by omega
        go_wp2_with (go_at_call 59; refine (HI.out (s[k]) _).mono ?_; rintro e w4 ⟨rfl, rfl⟩)
        refine ⟨⟨trivial, k + 1, by omega, by go_num, fun i h hi => ?_⟩, ?_⟩
        · by_cases hik : i = k
          · subst hik
            rw [← HE.out]; exact hn
          · exact HB.out i h (by omega)
        · simp [intOf]; omega
      · have hn' : 0 ≤ dlx s[k] := by omega
        go_wp2_with (go_at_call 59; refine (HI.out (s[k]) _).mono ?_; rintro e w4 ⟨rfl, rfl⟩)
        go_ret
        refine ⟨?_, rfl⟩
        rw [tokL_at s.data.toList k hl HB.out (by rw [← HE.out]; omega)]
        rfl
    · have hkK : k = s.size := by omega
      subst hkK
      have hkI : ¬ ((s.size : Int) < (s.size : Int)) := by omega
      have HB := hide hb
      clear hb
      go_wp2_with fail
      go_ret
      refine ⟨?_, rfl⟩
      rw [tokL_all s.data.toList (fun i h => HB.out i h (by rw [bytes_len] at h; exact h)), bytes_len]
      rfl

set_option maxHeartbeats 2000000 in
set_option maxRecDepth 100000 in
theorem bytes_any (w0 : World) (rb : Nat) (t : ByteArray) (x d a b : Nat) (k : Int) (w : World) (h : RS w0 rb t x d w) (hab : a ≤ b) (hb : b ≤ t.size) :
    Calls Tryd.prog 38 #[.pointer (some ⟨rb, 0, none⟩), pc0 a b k] w fun e w' => e = .returned (.string (t.extract a b)) ∧ Up w w' := by
  have hA : (w.alloc (.cells #[.int .i64 a, .int .i64 b, .int .i64 k, .int .i64 0, .int .i64 0, .bool false, .slice none 0 0, .string ⟨#[]⟩, .slice none 0 0, .slice none 0 0, .int .i64 0] 50)).heap[rb]? = _ := (up_alloc w _).old h.cs
  have c0 := cell_of_row _ rb 0 _ _ _ hA
  have e0 : (#[.string t, .int .i64 x, .int .i64 d] : Array Value)[0]? = some (.string t) := rfl
  rw [e0] at c0
  have hbI : (b : Int) ≤ (t.size : Int) := by omega
  have habI : (a : Int) ≤ (b : Int) := by omega
  clear hA e0 h
  unfold pc0 pcV
  go_enter Tryd.func38, Tryd.ntmps38
  go_wp2_with fail
  go_region
  go_wp2
  go_ret
  exact ⟨rfl, (up_alloc w _).tr (up_drew _)⟩

theorem RS.more5 {w0 : World} {rb : Nat} {t : ByteArray} {a d : Nat} {w w' : World} (h : RS w0 rb t a d w) (u : Up w w') : RS w0 rb t a d w' := ⟨h.up.tr u, h.ge, u.old h.cs⟩

theorem sto7k {w1 : World} {g : Nat} {c0 c1 c2 c3 c4 c5 c6 : Value} {E : TypeId} (h : w1.heap[g]? = some (.cells #[c0, c1, c2, c3, c4, c5, c6] E (0, 0))) (v0 v1 v2 v3 v4 v5 v6 : Value) :
    (((((((w1.setCell ⟨g, 0, none⟩ v0).setCell ⟨g, 1, none⟩ v1).setCell ⟨g, 2, none⟩ v2).setCell ⟨g, 3, none⟩ v3).setCell ⟨g, 4, none⟩ v4).setCell ⟨g, 5, none⟩ v5).setCell ⟨g, 6, none⟩ v6).heap[g]? = some (.cells #[v0, v1, v2, v3, v4, v5, v6] E (0, 0)) ∧ Kr g w1 (((((((w1.setCell ⟨g, 0, none⟩ v0).setCell ⟨g, 1, none⟩ v1).setCell ⟨g, 2, none⟩ v2).setCell ⟨g, 3, none⟩ v3).setCell ⟨g, 4, none⟩ v4).setCell ⟨g, 5, none⟩ v5).setCell ⟨g, 6, none⟩ v6) := by
  have f0 := Kr.refl g w1
  have s0 : (#[c0, c1, c2, c3, c4, c5, c6] : Array Value).setIfInBounds 0 v0 = #[v0, c1, c2, c3, c4, c5, c6] := rfl
  have s1 : (#[v0, c1, c2, c3, c4, c5, c6] : Array Value).setIfInBounds 1 v1 = #[v0, v1, c2, c3, c4, c5, c6] := rfl
  have s2 : (#[v0, v1, c2, c3, c4, c5, c6] : Array Value).setIfInBounds 2 v2 = #[v0, v1, v2, c3, c4, c5, c6] := rfl
  have s3 : (#[v0, v1, v2, c3, c4, c5, c6] : Array Value).setIfInBounds 3 v3 = #[v0, v1, v2, v3, c4, c5, c6] := rfl
  have s4 : (#[v0, v1, v2, v3, c4, c5, c6] : Array Value).setIfInBounds 4 v4 = #[v0, v1, v2, v3, v4, c5, c6] := rfl
  have s5 : (#[v0, v1, v2, v3, v4, c5, c6] : Array Value).setIfInBounds 5 v5 = #[v0, v1, v2, v3, v4, v5, c6] := rfl
  have s6 : (#[v0, v1, v2, v3, v4, v5, c6] : Array Value).setIfInBounds 6 v6 = #[v0, v1, v2, v3, v4, v5, v6] := rfl
  have h1 := heap_setCell_same w1 g 0 _ E v0 h
  rw [s0] at h1
  have f1 := f0.setCell 0 v0
  generalize w1.setCell ⟨g, 0, none⟩ v0 = wa at *
  have h2 := heap_setCell_same wa g 1 _ E v1 h1
  rw [s1] at h2
  have f2 := f1.setCell 1 v1
  generalize wa.setCell ⟨g, 1, none⟩ v1 = wb at *
  have h3 := heap_setCell_same wb g 2 _ E v2 h2
  rw [s2] at h3
  have f3 := f2.setCell 2 v2
  generalize wb.setCell ⟨g, 2, none⟩ v2 = wc at *
  have h4 := heap_setCell_same wc g 3 _ E v3 h3
  rw [s3] at h4
  have f4 := f3.setCell 3 v3
  generalize wc.setCell ⟨g, 3, none⟩ v3 = wd at *
  have h5 := heap_setCell_same wd g 4 _ E v4 h4
  rw [s4] at h5
  have f5 := f4.setCell 4 v4
  generalize wd.setCell ⟨g, 4, none⟩ v4 = we at *
  have h6 := heap_setCell_same we g 5 _ E v5 h5
  rw [s5] at h6
  have f6 := f5.setCell 5 v5
  generalize we.setCell ⟨g, 5, none⟩ v5 = wf at *
  have h7 := heap_setCell_same wf g 6 _ E v6 h6
  rw [s6] at h7
  have f7 := f6.setCell 6 v6
  exact ⟨h7, f7⟩

theorem frozen7k {w1 : World} {g : Nat} {c0 c1 c2 c3 c4 c5 c6 : Value} {E : TypeId} (h : w1.heap[g]? = some (.cells #[c0, c1, c2, c3, c4, c5, c6] E (0, 0))) : w1.frozen? ⟨g, 0, none⟩ = false ∧ w1.frozen? ⟨g, 1, none⟩ = false ∧ w1.frozen? ⟨g, 2, none⟩ = false ∧ w1.frozen? ⟨g, 3, none⟩ = false ∧ w1.frozen? ⟨g, 4, none⟩ = false ∧ w1.frozen? ⟨g, 5, none⟩ = false ∧ w1.frozen? ⟨g, 6, none⟩ = false :=
  ⟨frozen_of_row w1 g 0 _ E h, frozen_of_row w1 g 1 _ E h, frozen_of_row w1 g 2 _ E h, frozen_of_row w1 g 3 _ E h, frozen_of_row w1 g 4 _ E h, frozen_of_row w1 g 5 _ E h, frozen_of_row w1 g 6 _ E h⟩

def zer7 : Obj := .cells #[.int .i64 0, .int .i64 0, .bool false, .slice none 0 0, .string ⟨#[]⟩, .slice none 0 0, .slice none 0 0] 31

end Go.Proofs.YteipogfolnlblaaDoor
