/-
  What is proved here: package show's put; begin.
-/
import Derived.Test.YtfplplobhmacoaaGreatDoorSPut
namespace Go.Proofs.YtfplplobhmacoaaGreatDoor
open Go Go.RowKit

def flat (l : List ByteArray) : List UInt8 := l.flatMap fun s => s.data.toList
theorem flat_take (l : List ByteArray) {k : Nat} (hk : k < l.length) : flat (l.take (k + 1)) = flat (l.take k) ++ l[k].data.toList := by
  unfold flat
  rw [List.take_succ_eq_append_getElem hk, List.flatMap_append]
  simp
theorem flat_le (l : List ByteArray) (k : Nat) : (flat (l.take k)).length ≤ (flat l).length := by
  have : flat l = flat (l.take k) ++ flat (l.drop k) := by
    unfold flat
    rw [← List.flatMap_append, List.take_append_drop]
  rw [this, List.length_append]
  omega

/-- The pieces lie in block g. -/
def PcsAt (w : World) (v : Value) (l : List ByteArray) : Prop :=
  ∃ ao cap, v = .slice ao l.length cap ∧ (l = [] ∨ ∃ g, ao = some ⟨g, 0, none⟩ ∧ w.heap[g]? = some (.cells (l.map Value.string).toArray 9 (0, 0)))

theorem PcsAt.kp {tb : Nat} {w w' : World} {v : Value} {l : List ByteArray} (h : PcsAt w v l) (k : Kp tb w w') (ht : ∃ c, w.heap[tb]? = some (.cells c 58 (0, 0))) : PcsAt w' v l := by
  obtain ⟨ao, cap, e, h⟩ := h
  refine ⟨ao, cap, e, ?_⟩
  rcases h with h | ⟨g, e1, e2⟩
  · exact .inl h
  · refine .inr ⟨g, e1, k.2 _ _ _ _ (fun e => ?_) (by decide) e2⟩
    obtain ⟨c, hc⟩ := ht
    rw [e, hc] at e2
    simp at e2

set_option maxHeartbeats 2000000 in
set_option maxRecDepth 100000 in
theorem put_any (B tb : Nat) (out : List UInt8) (r : Value) (l : List ByteArray) (v : Value) (w : World) (h : TellAt B tb out r w) (hp : PcsAt w v l) (hlen : out.length + (flat l).length ≤ 140737488355328) (hBw : B ≤ w.heap.size) (hl : l.length ≤ 1000) :
    Calls Tryz.prog 38 #[.pointer (some ⟨tb, 0, none⟩), v] w fun e w' => e = .returned (.tuple #[]) ∧ TellAt B tb (out ++ flat l) r w' ∧ Below B w w' ∧ Kp tb w w' := by
  obtain ⟨ao, cap, rfl, -⟩ := id hp
  have HP := hide hp
  have H0 := hide h
  have HL := hide hlen
  clear hp h hlen
  go_enter Tryz.func38, Tryz.ntmps38
  go_wp2_with fail
  go_loopw [8] (fun a8 wr => ∃ k : Nat, k ≤ l.length ∧ a8 = .int .i64 (k : Int) ∧ TellAt B tb (out ++ flat (l.take k)) r wr ∧ Below B w wr ∧ Kp tb w wr) (fun a8 _ => l.length - (intOf a8).toNat)
  case atStart => exact ⟨0, Nat.zero_le _, rfl, by simpa [flat] using H0.out, Below.refl _ _, Kp.refl _ _⟩
  case round =>
    obtain ⟨k, hk, rfl, hT, hb, hK⟩ := hrel
    by_cases hlt : k < l.length
    · have hP := HP.out.kp hK (by obtain ⟨_, p, v, h1, _⟩ := H0.out; exact ⟨_, h1⟩)
      obtain ⟨ao', cap', e, hP⟩ := hP
      cases e
      obtain ⟨g, rfl, hg⟩ : ∃ g, ao = some ⟨g, 0, none⟩ ∧ wr.heap[g]? = some (.cells (l.map Value.string).toArray 9 (0, 0)) := by
        rcases hP with h | h
        · rw [h] at hlt; simp at hlt
        · exact h
      obtain ⟨s, hs⟩ : ∃ s, s = l[k] := ⟨_, rfl⟩
      have cx : wr.cell? ⟨g, k, none⟩ = some (.string s) := by
        rw [cell_of_row wr g k _ _ _ hg, hs]
        simp [hlt]
      have e1 := flat_take l hlt
      rw [← hs] at e1
      have e2 := flat_le l (k + 1)
      have hsz : s.data.toList.length = s.size := bytes_len s
      have KW := writeString_any B tb (out ++ flat (l.take k)) r s wr hT (by have := HL.out; rw [e1] at e2; rw [List.length_append] at *; omega) (by have := hK.1; omega)
      rw [List.append_assoc, ← e1] at KW
      have HW := hide KW
      have hkI : (k : Int) < (l.length : Int) := by omega
      have HB := hide hb
      have HK := hide hK
      clear KW hT hb hK hg hP hs e1 e2 hsz
      go_wp2_with (go_at_call 57; refine HW.out.mono ?_; rintro e w2 ⟨rfl, hT2, hb2, hk2⟩)
      refine ⟨⟨k + 1, by omega, by go_num, hT2, HB.out.trans hb2, HK.out.trans hk2⟩, ?_⟩
      simp [intOf]
      omega
    · have hkK : k = l.length := by omega
      subst hkK
      rw [List.take_length] at hT
      have hkI : ¬ ((l.length : Int) < (l.length : Int)) := by omega
      have HT := hide hT
      clear hT
      go_wp2
      go_end0
      exact ⟨rfl, HT.out, hb, hK⟩

end Go.Proofs.YtfplplobhmacoaaGreatDoor
