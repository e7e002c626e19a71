/-
  What is proved here: package read's commentLength.
-/
import Derived.Test.YteipogfolnlblaaWRU
namespace Go.Proofs.Yteipogfolnlblaa
open Go Go.RowKit
/-- How many bytes there are up to the end of a comment, o of them being open. -/
def comM : List UInt8 → Nat → Option Nat
  | x :: y :: l, o => if x = 35 ∧ y = 124 then (comM l (o + 1)).map (· + 2) else if x = 124 ∧ y = 35 then (if o = 1 then some 2 else (comM l (o - 1)).map (· + 2)) else (comM (y :: l) o).map (· + 1)
  | _, _ => none

theorem comM_short {l : List UInt8} (o : Nat) (h : l.length ≤ 1) : comM l o = none := by
  match l, h with
  | [], _ => rfl
  | [_], _ => rfl

theorem map_map2 (x : Option Nat) (i j : Nat) : (x.map (· + j)).map (· + i) = x.map (· + (i + j)) := by
  cases x
  · rfl
  · simp; omega

theorem comM_le : ∀ (m : Nat) (l : List UInt8) (o v : Nat), l.length ≤ m → comM l o = some v → v ≤ l.length ∧ 1 ≤ v
  | 0, l, o, v, hl, h => by rw [comM_short o (by omega)] at h; cases h
  | m + 1, [], o, v, hl, h => by cases h
  | m + 1, [_], o, v, hl, h => by cases h
  | m + 1, x :: y :: l, o, v, hl, h => by
    simp only [comM] at h
    simp only [List.length_cons] at hl ⊢
    split at h
    · obtain ⟨u, hu, rfl⟩ := Option.map_eq_some_iff.1 h
      have := comM_le m l _ _ (by omega) hu
      omega
    · split at h
      · split at h
        · cases h; omega
        · obtain ⟨u, hu, rfl⟩ := Option.map_eq_some_iff.1 h
          have := comM_le m l _ _ (by omega) hu
          omega
      · obtain ⟨u, hu, rfl⟩ := Option.map_eq_some_iff.1 h
        have := comM_le m (y :: l) _ _ (by simp; omega) hu
        simp only [List.length_cons] at this
        omega

theorem two_bytes (r : ByteArray) (i : Nat) (x y : UInt8) (l : List UInt8) (h : r.data.toList.drop i = x :: y :: l) : (r.extract i (i + 2)).toList = [x, y] ∧ i + 2 ≤ r.size := by
  have hz : r.size - i = l.length + 2 := by rw [← bytes_len, ← List.length_drop, h]; rfl
  refine ⟨?_, by omega⟩
  rw [Lib.extract_toList, h]
  first | rfl | (rw [show i + 2 - i = 2 from by omega]; rfl)

set_option maxHeartbeats 4000000 in
set_option maxRecDepth 100000 in
theorem comment_any (r : ByteArray) (w : World) (hr : r.size ≤ 1000000000) (h0 : ∃ l, r.data.toList = 35 :: 124 :: l) :
    Calls Try.prog 70 #[.string r] w fun e w' => e = .returned (.tuple #[.int .i64 (((comM r.data.toList 0).getD 0 : Nat) : Int), .bool (comM r.data.toList 0).isSome]) ∧ w' = w := by
  obtain ⟨M, hM⟩ : ∃ M, M = comM r.data.toList 0 := ⟨_, rfl⟩
  rw [← hM]
  have H0 := hide h0
  have HM := hide hM
  clear h0 hM
  go_enter Try.func70, Try.ntmps70
  go_wp2_with fail
  go_loopw [4, 5] (fun a4 a5 wr => wr = w ∧ ∃ i o : Nat, a4 = .int .i64 (o : Int) ∧ a5 = .int .i64 (i : Int) ∧ i ≤ r.size ∧ o ≤ i ∧ (1 ≤ o ∨ i = 0) ∧ M = (comM (r.data.toList.drop i) o).map (· + i)) (fun _ a5 _ => r.size - (intOf a5).toNat)
  case atStart => exact ⟨rfl, 0, 0, rfl, rfl, Nat.zero_le _, Nat.le_refl _, .inr rfl, by rw [HM.out]; simp⟩
  case round =>
    obtain ⟨rfl, i, o, rfl, rfl, hi, hoi, ho, hm⟩ := hrel
    have hlen : (r.data.toList.drop i).length = r.size - i := by rw [List.length_drop, bytes_len]
    match hd : r.data.toList.drop i with
    | [] =>
      rw [hd] at hlen hm
      simp only [List.length_nil] at hlen
      have hI : ¬ ((i : Int) + 1 < (r.size : Int)) := by omega
      have em : M = none := by rw [hm]; rfl
      subst em
      clear hm hlen
      go_wp2_with fail
      refine bodyPost_ret (by simp [results, Try.results70, go_sem]; rfl) rfl ?_
      exact ⟨by simp, rfl⟩
    | [c] =>
      rw [hd] at hlen hm
      simp only [List.length_cons, List.length_nil] at hlen
      have hI : ¬ ((i : Int) + 1 < (r.size : Int)) := by omega
      have em : M = none := by rw [hm]; rfl
      subst em
      clear hm hlen
      go_wp2_with fail
      refine bodyPost_ret (by simp [results, Try.results70, go_sem]; rfl) rfl ?_
      exact ⟨by simp, rfl⟩
    | x :: y :: l =>
      obtain ⟨he, hz⟩ := two_bytes r i x y l hd
      have d2 : r.data.toList.drop (i + 2) = l := by rw [← List.drop_drop, hd]; rfl
      have d1 : r.data.toList.drop (i + 1) = y :: l := by rw [← List.drop_drop, hd]; rfl
      rw [hd] at hm
      simp only [comM] at hm
      have hI : ((i : Int) + 1 < (r.size : Int)) := by omega
      have hI2 : ((i : Int) + 2 ≤ (r.size : Int)) := by omega
      have oI : (o : Int) ≤ 1000000000 := by omega
      by_cases hA : x = 35 ∧ y = 124
      · rw [if_pos hA, map_map2] at hm
        have b1 : ((r.extract i (i + 2)).toList == [35, 124]) = true := by rw [he, hA.1, hA.2]; rfl
        have o1 : ¬ ((o : Int) + 1 = 0) := by omega
        have HM2 := hide hm
        clear hm he hA hd hlen
        go_wp2_with fail
        refine ⟨⟨trivial, i + 2, o + 1, by go_num, by go_num, by omega, by omega, .inl (by omega), by rw [d2]; exact HM2.out⟩, ?_⟩
        simp [intOf]; omega
      · rw [if_neg hA] at hm
        have b1 : ((r.extract i (i + 2)).toList == [35, 124]) = false := by rw [he]; simpa using fun e1 e2 => hA ⟨e1, e2⟩
        by_cases hB : x = 124 ∧ y = 35
        · rw [if_pos hB] at hm
          have b2 : ((r.extract i (i + 2)).toList == [124, 35]) = true := by rw [he, hB.1, hB.2]; rfl
          have ho1 : 1 ≤ o := by
            rcases ho with h | h
            · exact h
            · exfalso
              obtain ⟨l9, h9⟩ := H0.out
              rw [h, List.drop_zero, h9] at hd
              cases hd
              exact hA ⟨rfl, rfl⟩
          by_cases hone : o = 1
          · rw [if_pos hone] at hm
            subst hone
            have em : M = some (2 + i) := hm
            subst em
            clear hm he hA hB hd hlen
            go_wp2_with fail
            refine bodyPost_ret (by simp [results, Try.results70, go_sem]; rfl) rfl ?_
            refine ⟨?_, rfl⟩
            simp
            omega
          · rw [if_neg hone, map_map2] at hm
            have o1 : ¬ ((o : Int) - 1 = 0) := by omega
            have HM2 := hide hm
            clear hm he hA hB hd hlen
            go_wp2_with fail
            refine ⟨⟨trivial, i + 2, o - 1, by go_num, by go_num, by omega, by omega, .inl (by omega), by rw [d2]; exact HM2.out⟩, ?_⟩
            simp [intOf]; omega
        · rw [if_neg hB, map_map2] at hm
          have b2 : ((r.extract i (i + 2)).toList == [124, 35]) = false := by rw [he]; simpa using fun e1 e2 => hB ⟨e1, e2⟩
          have ho1 : 1 ≤ o := by
            rcases ho with h | h
            · exact h
            · exfalso
              obtain ⟨l9, h9⟩ := H0.out
              rw [h, List.drop_zero, h9] at hd
              cases hd
              exact hA ⟨rfl, rfl⟩
          have o1 : ¬ ((o : Int) = 0) := by omega
          have HM2 := hide hm
          clear hm he hA hB hd hlen
          go_wp2_with fail
          refine ⟨⟨trivial, i + 1, o, by go_num, by go_num, by omega, by omega, .inl (by omega), by rw [d1]; exact HM2.out⟩, ?_⟩
          simp [intOf]; omega

end Go.Proofs.Yteipogfolnlblaa
