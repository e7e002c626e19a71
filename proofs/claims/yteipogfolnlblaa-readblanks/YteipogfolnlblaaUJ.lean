/-
  What is proved here: a row of data with another row behind it; no walk.
-/
import Derived.Test.YteipogfolnlblaaWXQ
import Derived.Test.YteipogfolnlblaaUB
namespace Go.Proofs.Yteipogfolnlblaa
open Go Go.RowKit

/-- A row more. -/
theorem LI.snocs {lo h : Nat} {I J : List (Tr (h + 1))} {v v' : Value} {xs news : List Value} {wr w2 w3 : World} (L : LI lo h I v xs wr) (hlo : lo ≤ wr.heap.size) (u : Up wr w2) (hn : ∀ i (hi : i < J.length), DatQ (fun k => wr.heap.size ≤ k) w2 (h + 1) J[i] (sv news i))
    (hown : w3.ownsRow lo 35 7 v' (I.length + J.length) (xs ++ news)) (hgrow : w2.grownBy w3 v.ownBlock) (hat : v'.ownBlock = v.ownBlock ∨ v'.ownBlock = some w2.heap.size) : LI lo h (I ++ J) v' (xs ++ news) w3 := by
  have hlen := L.own.1
  have vlt : ∀ b, v.ownBlock = some b → lo ≤ b ∧ b < wr.heap.size := fun b hb => L.own.lt b hb
  have us := u.size
  refine ⟨by rw [List.length_append]; exact hown, fun j hj => ?_⟩
  rw [List.length_append] at hj
  by_cases e : j < I.length
  · rw [sv_old hlen e, List.getElem_append_left e]
    refine DatQ.keep (w := wr) (fun b hb hq => ?_) (fun b hb hq => ⟨hq.1, fun e => ?_⟩) (L.it j e)
    · rw [hgrow.block b (by omega) (fun e => hq.2 e.symm)]
      exact u.block b hb
    · rcases hat with h1 | h1
      · exact hq.2 (by rw [← h1]; exact e)
      · rw [h1] at e
        have : w2.heap.size = b := by simpa using e
        omega
  · obtain ⟨k, rfl⟩ : ∃ k, j = I.length + k := ⟨j - I.length, by omega⟩
    rw [sv_app hlen, List.getElem_append_right (by omega)]
    have e2 : I.length + k - I.length = k := by omega
    simp only [e2]
    refine DatQ.keep (w := w2) (fun b hb hq => ?_) (fun b hb hq => ⟨by omega, fun e => ?_⟩) (hn k (by omega))
    · rw [hgrow.block b hb (fun e => by have := (vlt b e.symm).2; omega)]
    · rcases hat with h1 | h1
      · have := (vlt b (by rw [← h1]; exact e)).2
        omega
      · rw [h1] at e
        have : w2.heap.size = b := by simpa using e
        omega

end Go.Proofs.Yteipogfolnlblaa
