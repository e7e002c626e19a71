/-
  What is proved here: strings.HasPrefix; package read's tokenLength.
-/
import Derived.Test.YtfplplobhmacoaaGreatDoorRC
namespace Go.Proofs.YtfplplobhmacoaaGreatDoor
open Go Go.RowKit

set_option maxHeartbeats 1000000 in
set_option maxRecDepth 100000 in
theorem litePre_any (s p : ByteArray) (w : World) :
    Calls Tryz.prog 46 #[.string s, .string p] w fun e w' => e = .returned (.bool (Lib.hasPrefix s.data.toList p.data.toList)) ∧ w' = w := by
  rw [← Lib.hasPrefix_of_take, ← Lib.size_eq, ← Lib.size_eq]
  go_enter Tryz.func46, Tryz.ntmps46
  go_wp2
  · rename_i h
    go_ret
    refine ⟨?_, rfl⟩
    show Ending.returned (Value.bool ((s.extract 0 p.size).toList == p.toList)) = _
    rw [Lib.extract_toList, Lib.toList_data]
    simp [h]
  · rename_i h
    go_ret
    refine ⟨?_, rfl⟩
    show Ending.returned (Value.bool false) = _
    simp [h]

set_option maxHeartbeats 1000000 in
set_option maxRecDepth 100000 in
theorem prefix_any (s p : ByteArray) (w : World) :
    Calls Tryz.prog 29 #[.string s, .string p] w fun e w' => e = .returned (.bool (Lib.hasPrefix s.data.toList p.data.toList)) ∧ w' = w := by
  go_enter Tryz.func29, Tryz.ntmps29
  go_wp2_with (go_at_call 46; refine (litePre_any _ _ _).mono ?_; rintro e w' ⟨rfl, rfl⟩)
  go_ret
  exact ⟨rfl, rfl⟩

/-- Where a delimiter stands among the delimiters, or less than 0. -/
def dlx (c : UInt8) : Int := Lib.indexByte [32, 9, 10, 13, 40, 41, 34, 59, 39] c
/-- How many bytes there are ahead of a delimiter. -/
def tokL (l : List UInt8) : Nat := (l.takeWhile fun c => decide (dlx c < 0)).length
theorem tokL_le (l : List UInt8) : tokL l ≤ l.length := (List.takeWhile_sublist _).length_le
theorem tokL_at (l : List UInt8) (k : Nat) (hk : k < l.length) (h1 : ∀ i (h : i < l.length), i < k → dlx l[i] < 0) (h2 : ¬ dlx l[k] < 0) : tokL l = k := by
  induction l generalizing k with
  | nil => simp at hk
  | cons c l ih =>
    cases k with
    | zero =>
      have h3 : ¬ dlx c < 0 := h2
      simp [tokL, h3]
    | succ k =>
      have h3 : dlx c < 0 := h1 0 (by simp) (by omega)
      have h4 := ih k (by simpa using hk) (fun i hi hik => by have := h1 (i + 1) (by simpa using hi) (by omega); simpa using this) (by simpa using h2)
      simp only [tokL] at h4
      simp [tokL, h3, h4]
theorem tokL_all (l : List UInt8) (h1 : ∀ i (h : i < l.length), dlx l[i] < 0) : tokL l = l.length := by
  induction l with
  | nil => rfl
  | cons c l ih =>
    have h3 : dlx c < 0 := h1 0 (by simp)
    have h4 := ih (fun i hi => by have := h1 (i + 1) (by simpa using hi); simpa using this)
    simp only [tokL] at h4
    simp [tokL, h3, h4]

set_option maxHeartbeats 2000000 in
set_option maxRecDepth 100000 in
theorem tokenLength_any (s : ByteArray) (w : World) (hs : s.size ≤ 1000000000) :
    Calls Tryz.prog 48 #[.string s] w fun e w' => e = .returned (.int .i64 (tokL s.data.toList : Nat)) ∧ w' = w := by
  have KI : ∀ (c : UInt8) (W : World), Calls Tryz.prog 45 #[.string ⟨#[32, 9, 10, 13, 40, 41, 34, 59, 39]⟩, .int .u8 (c.toNat : Int)] W fun e w' => e = .returned (.int .i64 (dlx c)) ∧ w' = W := fun c W => index_any _ c W
  have HI := hide KI
  clear KI
  have hsI : (s.size : Int) ≤ 9223372036854775807 := by omega
  go_enter Tryz.func48, Tryz.ntmps48
  go_wp2_with fail
  go_loopw [6] (fun a6 wr => wr = w ∧ ∃ k : Nat, k ≤ s.size ∧ a6 = .int .i64 (k : Int) ∧ ∀ i (h : i < s.data.toList.length), i < k → dlx s.data.toList[i] < 0) (fun a6 _ => s.size - (intOf a6).toNat)
  case atStart => exact ⟨rfl, 0, Nat.zero_le _, rfl, fun i h hi => by omega⟩
  case round =>
    obtain ⟨rfl, k, hk, rfl, hb⟩ := hrel
    by_cases hlt : k < s.size
    · have hkI : (k : Int) < (s.size : Int) := by omega
      have hl : k < s.data.toList.length := by rw [bytes_len]; exact hlt
      have e4 : s[k] = s.data.toList[k] := by simp [ByteArray.getElem_eq_getElem_data]
      have HB := hide hb
      clear hb
      have HE := hide e4
      clear e4
      by_cases hn : dlx s[k] < 0
      · have hn' : ¬ (0 ≤ dlx s[k]) := by omega
        go_wp2_with (go_at_call 45; refine (HI.out (s[k]) _).mono ?_; rintro e w4 ⟨rfl, rfl⟩)
        refine ⟨⟨trivial, k + 1, by omega, by go_num, fun i h hi => ?_⟩, ?_⟩
        · by_cases hik : i = k
          · subst hik
            rw [← HE.out]; exact hn
          · exact HB.out i h (by omega)
        · simp [intOf]; omega
      · have hn' : 0 ≤ dlx s[k] := by omega
        go_wp2_with (go_at_call 45; refine (HI.out (s[k]) _).mono ?_; rintro e w4 ⟨rfl, rfl⟩)
        go_ret
        refine ⟨?_, rfl⟩
        rw [tokL_at s.data.toList k hl HB.out (by rw [← HE.out]; omega)]
        rfl
    · have hkK : k = s.size := by omega
      subst hkK
      have hkI : ¬ ((s.size : Int) < (s.size : Int)) := by omega
      have HB := hide hb
      clear hb
      go_wp2_with fail
      go_ret
      refine ⟨?_, rfl⟩
      rw [tokL_all s.data.toList (fun i h => HB.out i h (by rw [bytes_len] at h; exact h)), bytes_len]
      rfl

end Go.Proofs.YtfplplobhmacoaaGreatDoor
