/-
  What is proved here: how bytes that came in are opened.
-/
import Derived.Test.YtilcigjhogcjkaaPKLift
import Derived.Test.YtilcigjhogcjkaaPRA
namespace Go.Proofs.Ytilcigjhogcjkaa
open Go.ChangeShapes Go.WideShapes Go.ChangeAt Go.RowKit

/-- Bytes that came in. -/
def BM (w : World) (ao : Option Addr) (n cap : Nat) (l : List Nat) : Prop := (ao = none → n = 0 ∧ cap = 0) ∧ n = l.length ∧ ∀ ad, ao = some ad → ∀ j u, (cL l)[j]? = some u → w.cell? (ad.add j) = some u
theorem open_bytes {H : Type} {enc : TypeId × Value → H} {W : World} {ao : Option Addr} {len cap : Nat} {d : DataW H} {p : List MemPlace} (h : DataW.Trod enc Try.prog W 0 (fun _ => true) true 23 (.slice ao len cap) d p) :
    ∃ l, BM W ao len cap l ∧ By8 l ∧ l.length ≤ Rows.uptoBulk d := by
  obtain ⟨fuel, hf⟩ := h
  rcases open_ints Try.underlying23 Try.underlying5 (by kernel_rfl) hf with ⟨hcs, _⟩ | ⟨x, l, c, zs, hcs, hx1, hl, hm, hz, hx2, hcell, hwz⟩
  · simp [Value.cells] at hcs
    obtain ⟨rfl, rfl, rfl⟩ := hcs
    exact ⟨[], ⟨fun _ => ⟨rfl, rfl⟩, rfl, (fun ad e => by cases e)⟩, (fun x hx => by cases hx), Nat.zero_le _⟩
  · simp [Value.cells] at hcs
    obtain ⟨rfl, rfl, rfl⟩ := hcs
    have hz' : zs.length = cap := by simpa using hz
    have hr : ∀ z ∈ zs, 0 ≤ z ∧ z < 256 := by
      intro z hz
      have := hwz z hz
      simp [Lit.wf, IntKind.min, IntKind.max, IntKind.signed, IntKind.bits] at this
      omega
    obtain ⟨rfl, rfl⟩ := Prod.mk.inj hx2
    have hlen : ((zs.take len).map Int.toNat).length = len := by simp; omega
    refine ⟨(zs.take len).map Int.toNat, ⟨(fun e => by cases e), hlen.symm, ?_⟩, ?_, ?_⟩
    · intro ad e j u hj
      cases e
      have hjl : j < len := by
        have := (List.getElem?_eq_some_iff.1 hj).1
        rw [cL_len, hlen] at this
        exact this
      have hj2 : j < zs.length := by omega
      have hc := hcell j (by omega)
      rw [hc, ← hj]
      have hg : zs.getD j 0 = zs[j] := by simp [List.getD_eq_getElem?_getD, hj2]
      have h0 := (hr zs[j] (List.getElem_mem hj2)).1
      have e3 : ((zs[j]).toNat : Int) = zs[j] := Int.toNat_of_nonneg h0
      simp only [cL, List.getElem?_map, List.getElem?_take_of_lt hjl, List.getElem?_eq_getElem hj2, Option.map_some]
      rw [hg, e3]
    · intro y hy
      obtain ⟨z, hz1, rfl⟩ := List.mem_map.1 hy
      have := hr z (List.mem_of_mem_take hz1)
      omega
    · rw [hlen]
      simp only [Rows.uptoBulk, bulk_lits, List.length_take, List.length_drop]
      omega

end Go.Proofs.Ytilcigjhogcjkaa
