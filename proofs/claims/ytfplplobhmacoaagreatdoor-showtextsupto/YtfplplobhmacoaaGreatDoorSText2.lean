/-
  What is proved here: package show's text, list.
-/
import Derived.Test.YtfplplobhmacoaaGreatDoorSText
namespace Go.Proofs.YtfplplobhmacoaaGreatDoor
open Go Go.RowKit

theorem tsW_take (l : List UInt8) {k : Nat} (hk : k < l.length) : tsW (l.take (k + 1)) = tsW (l.take k) ++ tbW l[k] := by
  unfold tsW
  rw [List.take_succ_eq_append_getElem hk, List.flatMap_append]
  simp

set_option maxHeartbeats 4000000 in
set_option maxRecDepth 100000 in
theorem text_any (w0 : World) (tb : Nat) (out : List UInt8) (σ : List RowP) (s : ByteArray) (sh : Bool) (w : World) (h : TS w0 tb out σ w) (hlen : out.length + 5 * s.size + 200 ≤ 140737488355328) :
    Calls Tryz.prog 42 #[.pointer (some ⟨tb, 0, none⟩), .string s, .int .i64 (howI sh)] w fun e w' => e = .returned (.tuple #[]) ∧ TS w0 tb (out ++ (if sh then s.data.toList else [34] ++ tsW s.data.toList ++ [34])) σ w' := by
  have hsz := bytes_len s
  cases sh
  · have KP := fun (o : List UInt8) (ho : o.length ≤ out.length + 5 * s.size + 50) (W : World) (hW : TS w0 tb o σ W) => put_new w0 tb o σ [⟨#[34]⟩] 1 W hW (by simp [flat]; omega) (by simp)
    have e1 : flat [⟨#[34]⟩] = [34] := by simp [flat]
    rw [e1] at KP
    simp only [List.map_cons, List.map_nil, List.length_cons, List.length_nil, Nat.zero_add] at KP
    have HP := hide KP
    have HH := hide h
    simp only [howI, Bool.false_eq_true, if_false]
    clear KP h e1
    have hsI : (s.size : Int) ≤ 9223372036854775807 := by omega
    go_enter Tryz.func42, Tryz.ntmps42
    go_wp2_with (go_at_call 38; refine (HP.out out (by omega) _ HH.out).mono ?_; rintro e w3 ⟨rfl, h3, -, -⟩; have H3 := hide h3; clear h3)
    go_loopw [18] (fun a18 wr => ∃ k : Nat, k ≤ s.size ∧ a18 = .int .i64 (k : Int) ∧ TS w0 tb (out ++ [34] ++ tsW (s.data.toList.take k)) σ wr) (fun a18 _ => s.size - (intOf a18).toNat)
    case atStart => exact ⟨0, Nat.zero_le _, rfl, by simpa [tsW] using H3.out⟩
    case round =>
      obtain ⟨k, hk, rfl, hT⟩ := hrel
      by_cases hlt : k < s.size
      · have hlt' : k < s.data.toList.length := by omega
        have e2 := tsW_take s.data.toList hlt'
        have e3 := tsW_le (s.data.toList.take k)
        rw [List.length_take] at e3
        have KB := textByte_any w0 tb _ σ (s.data.toList[k]) wr hT (by simp only [List.length_append, List.length_singleton]; omega)
        rw [List.append_assoc, ← e2] at KB
        have e4 : s[k] = s.data.toList[k] := by simp [ByteArray.getElem_eq_getElem_data]
        rw [← e4] at KB
        have HB := hide KB
        have hkI : (k : Int) < (s.size : Int) := by omega
        clear KB e2 e3 e4 hT
        go_wp2_with (go_at_call 62; refine HB.out.mono ?_; rintro e w4 ⟨rfl, h4⟩)
        refine ⟨⟨k + 1, by omega, by go_num, h4⟩, ?_⟩
        simp [intOf]
        omega
      · have hkK : k = s.size := by omega
        subst hkK
        have e5 : s.data.toList.take s.size = s.data.toList := List.take_of_length_le (by omega)
        rw [e5] at hT
        have hkI : ¬ ((s.size : Int) < (s.size : Int)) := by omega
        have hle := tsW_le s.data.toList
        have HT := hide hT
        clear hT e5
        go_wp2_with (go_at_call 38; refine (HP.out _ (by simp only [List.length_append, List.length_singleton]; omega) _ HT.out).mono ?_; rintro e w5 ⟨rfl, h5, -, -⟩)
        go_end0
        refine ⟨rfl, ?_⟩
        simpa using h5
  · have KP := fun (W : World) (hW : TS w0 tb out σ W) => put_new w0 tb out σ [s] 1 W hW (by simp [flat]; omega) (by simp)
    have e1 : flat [s] = s.data.toList := by simp [flat]
    rw [e1] at KP
    simp only [List.map_cons, List.map_nil, List.length_cons, List.length_nil, Nat.zero_add] at KP
    have HP := hide KP
    have HH := hide h
    simp only [howI, if_true]
    clear KP h e1
    go_enter Tryz.func42, Tryz.ntmps42
    go_wp2_with (go_at_call 38; refine (HP.out _ HH.out).mono ?_; rintro e w3 ⟨rfl, h3, -, -⟩)
    ((try simp only [Exit.inBlock, Exit.then]); refine bodyPost_ret (results_none rfl _ _ _) rfl ?_)
    exact ⟨rfl, h3⟩

end Go.Proofs.YtfplplobhmacoaaGreatDoor
