/-
  What is proved here: how bytes that came in are opened, with their room.
-/
import Derived.Test.YtilcigjhogcjkaaYRPKLiftB
namespace Go.Proofs.Ytilcigjhogcjkaa
open Go.ChangeShapes Go.WideShapes Go.ChangeAt Go.RowKit
theorem open_bytesC {H : Type} {enc : TypeId × Value → H} {W : World} {ao : Option Addr} {len cap : Nat} {d : DataW H} {p : List MemPlace} (h : DataW.Trod enc Try.prog W 0 (fun _ => true) true 23 (.slice ao len cap) d p) :
    ∃ l, (BM W ao len cap l ∧ len ≤ cap ∧ cap ≤ 9223372036854775807) ∧ By8 l ∧ l.length ≤ Rows.uptoBulk d := by
  obtain ⟨l, h1, h2, h3⟩ := open_bytes h
  refine ⟨l, ⟨h1, ?_⟩, h2, h3⟩
  obtain ⟨fuel, hf⟩ := h
  rcases open_ints Try.underlying23 Try.underlying5 (by kernel_rfl) hf with ⟨hcs, _⟩ | ⟨x, l, c, zs, hcs, hx1, hl, hm, hz, hx2, hcell, hwz⟩
  · simp [Value.cells] at hcs
    obtain ⟨rfl, rfl, rfl⟩ := hcs
    exact ⟨Nat.le_refl _, by decide⟩
  · simp [Value.cells] at hcs
    obtain ⟨rfl, rfl, rfl⟩ := hcs
    refine ⟨hl, ?_⟩
    unfold maxLen at hm
    omega

/-- Bytes that came in, and are some, as bytes that lie there. -/
theorem BM.bl {w : World} {ao : Option Addr} {n cap : Nat} {l : List Nat} (h : BM w ao n cap l) (hl : n ≤ cap) (hm : cap ≤ 9223372036854775807) (hp : l ≠ []) : BL w (.slice ao n cap) l := by
  obtain ⟨h0, rfl, h1⟩ := h
  refine ⟨ao, cap, rfl, hl, hm, ?_⟩
  cases ao with
  | none => exact absurd (List.eq_nil_of_length_eq_zero (h0 rfl).1) hp
  | some ad =>
    obtain ⟨g, off, sp⟩ := ad
    have hpos : 0 < l.length := List.length_pos_iff.2 hp
    have e0 := h1 _ rfl 0 (.int .u8 (l[0] : Int)) (by simp [cL, hpos])
    have hsp : sp = none := by
      cases sp with
      | none => rfl
      | some s =>
        have e1 : w.cell? ⟨g, off, some s⟩ = some (.int .u8 (l[0] : Int)) := e0
        unfold World.cell? at e1
        revert e1
        cases w.heap[g]? with
        | none => intro e1; cases e1
        | some ob => cases ob <;> intro e1 <;> simp at e1
    subst hsp
    refine .inr ⟨g, off, rfl, fun j hj => ?_⟩
    have := h1 _ rfl j (.int .u8 (l[j] : Int)) (by simp [cL, hj])
    rw [Addr.add_lit] at this
    exact this

end Go.Proofs.Ytilcigjhogcjkaa
