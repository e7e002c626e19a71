/-
  What is proved here: tandemlaw00's SameCode, SameTexts and SameBytes: whether two lists are the same.
-/
import Derived.Test.YtilcigjhogcjkaaPKUA
import Derived.Test.YtilcigjhogcjkaaPKSame
import Derived.Test.YtilcigjhogcjkaaPKLen
namespace Go.Proofs.Ytilcigjhogcjkaa
open Go Go.RowKit

theorem CodeL.cells {w W : World} {co : Option Addr} {cc : Nat} {l : List (Int × Int × Int)} (h : CodeL w co cc l) (u : Up w W) {i : Nat} (hi : i < l.length) : ∃ g off, co = some ⟨g, off, none⟩ ∧ W.cell? ⟨g, off + i * 3, none⟩ = some (.int .i64 l[i].1) ∧ W.cell? ⟨g, off + i * 3 + 1, none⟩ = some (.int .i64 l[i].2.1) ∧ W.cell? ⟨g, off + i * 3 + 2, none⟩ = some (.int .i64 l[i].2.2) := by
  rcases (h.up u).2.2 with e | ⟨g, off, ea, hc⟩
  · omega
  · exact ⟨g, off, ea, hc i hi⟩
theorem NameL.cell {w W : World} {na : Option Addr} {nc : Nat} {l : List ByteArray} (h : NameL w na nc l) (u : Up w W) {i : Nat} (hi : i < l.length) : ∃ g off, na = some ⟨g, off, none⟩ ∧ W.cell? ⟨g, off + i, none⟩ = some (.string l[i]) := by
  rcases (h.up u).2.2 with e | ⟨g, off, ea, hc⟩
  · omega
  · exact ⟨g, off, ea, hc i hi⟩

set_option maxHeartbeats 4000000 in
set_option maxRecDepth 100000 in
theorem sameCode_yes (w : World) (l : List (Int × Int × Int)) (a b : Option Addr) (ca cb : Nat) (ha : CodeL w a ca l) (hb : CodeL w b cb l) :
    Calls Try.prog 34 #[.slice a l.length ca, .slice b l.length cb] w fun e w' => e = .returned (.bool true) ∧ Up w w' := by
  have hIl : l.length ≤ 9223372036854775807 := by have := ha.1; have := ha.2.1; omega
  have hne : ((l.length : Int) != (l.length : Int)) = false := by simp
  have HA := hide ha
  have HB := hide hb
  clear ha hb
  go_enter Try.func34, Try.ntmps34
  go_wp2_with fail
  go_loopw [5] (fun t wr => ∃ k : Nat, k ≤ l.length ∧ t = .int .i64 k ∧ Up w wr) (fun t _ => l.length - (intOf t).toNat)
  case atStart => exact ⟨0, Nat.zero_le _, rfl, Up.refl _⟩
  case round =>
    obtain ⟨k, hk, rfl, hup⟩ := hrel
    by_cases hlt : k < l.length
    · obtain ⟨g, off, rfl, e0, e1, e2⟩ := HA.out.cells (hup.tr (up_drew _)) hlt
      obtain ⟨g', off', rfl, f0, f1, f2⟩ := HB.out.cells (hup.tr (up_drew _)) hlt
      have hkI : (k : Int) < (l.length : Int) := by omega
      have HUP := hide hup
      clear hup
      generalize l[k] = x at *
      go_wp2_with fail
      go_region
      all_goals
        go_wp2_with fail
        refine ⟨⟨k + 1, by omega, by go_num, HUP.out.tr (up_drew _)⟩, ?_⟩
        simp [intOf]
        omega
    · have hkI : ¬ ((k : Int) < (l.length : Int)) := by omega
      go_wp2_with fail
      go_ret
      exact ⟨rfl, hup⟩
theorem sameCode_no (w : World) (n m : Nat) (a b : Option Addr) (ca cb : Nat) (hn : n ≠ m) :
    Calls Try.prog 34 #[.slice a n ca, .slice b m cb] w fun e w' => e = .returned (.bool false) ∧ Up w w' := by
  have hne : ((n : Int) != (m : Int)) = true := by rw [bne_iff_ne]; omega
  clear hn
  go_enter Try.func34, Try.ntmps34
  go_wp2_with fail
  go_ret
  exact ⟨rfl, Up.refl _⟩

set_option maxHeartbeats 4000000 in
set_option maxRecDepth 100000 in
theorem sameTexts_yes (w : World) (l : List ByteArray) (a b : Option Addr) (ca cb : Nat) (ha : NameL w a ca l) (hb : NameL w b cb l) :
    Calls Try.prog 36 #[.slice a l.length ca, .slice b l.length cb] w fun e w' => e = .returned (.bool true) ∧ Up w w' := by
  have hIl : l.length ≤ 9223372036854775807 := by have := ha.1; have := ha.2.1; omega
  have hne : ((l.length : Int) != (l.length : Int)) = false := by simp
  have HA := hide ha
  have HB := hide hb
  clear ha hb
  go_enter Try.func36, Try.ntmps36
  go_wp2_with fail
  go_loopw [5] (fun t wr => ∃ k : Nat, k ≤ l.length ∧ t = .int .i64 k ∧ Up w wr) (fun t _ => l.length - (intOf t).toNat)
  case atStart => exact ⟨0, Nat.zero_le _, rfl, Up.refl _⟩
  case round =>
    obtain ⟨k, hk, rfl, hup⟩ := hrel
    by_cases hlt : k < l.length
    · obtain ⟨g, off, rfl, e0⟩ := HA.out.cell (hup.tr (up_drew _)) hlt
      obtain ⟨g', off', rfl, f0⟩ := HB.out.cell (hup.tr (up_drew _)) hlt
      have hkI : (k : Int) < (l.length : Int) := by omega
      have HUP := hide hup
      clear hup
      generalize l[k] = x at *
      go_wp2_with fail
      go_region
      all_goals
        go_wp2_with fail
        refine ⟨⟨k + 1, by omega, by go_num, HUP.out.tr (up_drew _)⟩, ?_⟩
        simp [intOf]
        omega
    · have hkI : ¬ ((k : Int) < (l.length : Int)) := by omega
      go_wp2_with fail
      go_ret
      exact ⟨rfl, hup⟩
theorem sameTexts_no (w : World) (n m : Nat) (a b : Option Addr) (ca cb : Nat) (hn : n ≠ m) :
    Calls Try.prog 36 #[.slice a n ca, .slice b m cb] w fun e w' => e = .returned (.bool false) ∧ Up w w' := by
  have hne : ((n : Int) != (m : Int)) = true := by rw [bne_iff_ne]; omega
  clear hn
  go_enter Try.func36, Try.ntmps36
  go_wp2_with fail
  go_ret
  exact ⟨rfl, Up.refl _⟩
theorem strL_list (l : List Nat) : (strL l).toList = l.map fun n => UInt8.ofNat n := by
  rw [ByteArray.toList_eq]
  unfold strL
  rw [strOfNums_data, List.map_map]
  rfl
theorem strL_same {l m : List Nat} (hl : By8 l) (hm : By8 m) : ((strL l).toList == (strL m).toList) = true ↔ l = m := by
  rw [beq_iff_eq, strL_list, strL_list]
  refine ⟨fun h => ?_, fun h => by rw [h]⟩
  have key : ∀ l : List Nat, By8 l → (l.map fun n => UInt8.ofNat n).map UInt8.toNat = l := fun l hl => by
    rw [List.map_map]
    conv => rhs; rw [← List.map_id l]
    refine List.map_congr_left (fun x hx => ?_)
    have := hl x hx
    simp [UInt8.toNat_ofNat', Nat.mod_eq_of_lt this]
  rw [← key l hl, ← key m hm, h]
/-- Two rows of bytes. -/
theorem sameBy_two (w : World) (a b : Value) (A B : Nat) (l m : List Nat) (ha : ByAt w A a l) (hb : ByAt w B b m) :
    Calls Try.prog 11 #[a, b] w fun e w' => e = .returned (.bool ((strL l).toList == (strL m).toList)) ∧ w' = w := by
  have k1 := ha.conv
  have k2 := hb.conv
  obtain ⟨ao, ca, rfl⟩ : ∃ ao ca, a = .slice ao l.length ca := by
    rcases ha.2 with ⟨e, e0⟩ | ⟨g, cap, cur, e, _⟩
    · exact ⟨none, 0, by rw [e, e0]⟩
    · exact ⟨_, _, e⟩
  obtain ⟨bo, cb, rfl⟩ : ∃ bo cb, b = .slice bo m.length cb := by
    rcases hb.2 with ⟨e, e0⟩ | ⟨g, cap, cur, e, _⟩
    · exact ⟨none, 0, by rw [e, e0]⟩
    · exact ⟨_, _, e⟩
  clear ha hb
  go_enter Try.func11, Try.ntmps11
  go_wp2
  go_ret
  exact ⟨rfl, rfl⟩

end Go.Proofs.Ytilcigjhogcjkaa
