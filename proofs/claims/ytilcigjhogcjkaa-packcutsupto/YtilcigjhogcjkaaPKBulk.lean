/-
  What is proved here: what a bound of a program's bulk says of its parts; no walk.
-/
import Derived.Test.YtilcigjhogcjkaaPKLen
namespace Go.Proofs.Ytilcigjhogcjkaa
open Go Go.RowKit

theorem mem_sum {α : Type} (f : α → Nat) {l : List α} {x : α} (hx : x ∈ l) : f x ≤ (l.map f).sum := by
  obtain ⟨a, b, rfl⟩ := List.append_of_mem hx
  simp only [List.map_append, List.map_cons, List.sum_append, List.sum_cons]
  omega
theorem len_sum {α : Type} (f : α → Nat) (hf : ∀ x, 1 ≤ f x) : ∀ l : List α, l.length ≤ (l.map f).sum
  | [] => Nat.le_refl _
  | x :: l => by
    have := len_sum f hf l
    have := hf x
    simp only [List.map_cons, List.sum_cons, List.length_cons]
    omega
theorem bulk_parts {N : Nat} {ps : List (PC N)} {M : Nat} (hB : (ps.map pbk).sum + 1 ≤ M) : (∀ p, p ∈ ps → p.code.length ≤ M ∧ p.ns.length ≤ M ∧ (p.ks.map (bk N)).sum ≤ M) ∧ ps.length ≤ M := by
  refine ⟨fun p hp => ?_, ?_⟩
  · have h1 := mem_sum pbk hp
    have h2 := len_sum (fun s : ByteArray => s.size + 1) (fun _ => by omega) p.ns
    unfold pbk at h1 hB
    omega
  · have := len_sum (pbk (N := N)) (fun p => by unfold pbk; omega) ps
    omega

end Go.Proofs.Ytilcigjhogcjkaa
