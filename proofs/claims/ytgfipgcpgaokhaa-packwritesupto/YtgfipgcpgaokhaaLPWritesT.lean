/-
  What is proved here: tandemlaw10.PackWrites of any protos that come in.
-/
import Derived.Test.YtgfipgcpgaokhaaLPWrites
import Derived.Test.YtgfipgcpgaokhaaRPRt6
import Derived.Test.YtgfipgcpgaokhaaPKLen
namespace Go.Proofs.Ytgfipgcpgaokhaa
open Go Go.RowKit

theorem mem_sum {α : Type} (f : α → Nat) {l : List α} {x : α} (hx : x ∈ l) : f x ≤ (l.map f).sum := by
  obtain ⟨a, b, rfl⟩ := List.append_of_mem hx
  simp only [List.map_append, List.map_cons, List.sum_append, List.sum_cons]
  omega
theorem len_sum {α : Type} (f : α → Nat) (hf : ∀ x, 1 ≤ f x) : ∀ l : List α, l.length ≤ (l.map f).sum
  | [] => Nat.le_refl _
  | x :: l => by
    have := len_sum f hf l
    have := hf x
    simp only [List.map_cons, List.sum_cons, List.length_cons]
    omega
theorem bulk_parts {N : Nat} {ps : List (PC N)} {M : Nat} (hB : (ps.map pbk).sum + 1 ≤ M) : (∀ p, p ∈ ps → p.code.length ≤ M ∧ p.ns.length ≤ M ∧ (p.ks.map (bk N)).sum ≤ M) ∧ ps.length ≤ M := by
  refine ⟨fun p hp => ?_, ?_⟩
  · have h1 := mem_sum pbk hp
    have h2 := len_sum (fun s : ByteArray => s.size + 1) (fun _ => by omega) p.ns
    unfold pbk at h1 hB
    omega
  · have := len_sum (pbk (N := N)) (fun p => by unfold pbk; omega) ps
    omega
theorem packWrites_top {N : Nat} (W : World) (ps : List (PC N)) (v : Value) (hr : RowD W (PCellN W) v ps) (hB : (ps.map pbk).sum + 1 ≤ 1048576) :
    Calls Try.prog 3 #[v] W fun e w' => e = .returned (.bool true) ∧ Fr (fun _ => False) W w' := by
  obtain ⟨h1, h2⟩ := bulk_parts hB
  have h3 := pg_len ps
  exact packWrites_of (right_all N) W ps v hr (by omega) (fun p hp => by have := h1 p hp; omega) (by omega)

end Go.Proofs.Ytgfipgcpgaokhaa
