/-
  What is proved here: the document's way to keep places that are done, held against places that are to be looked at; that it ends; no walk.
-/
import Derived.Test.YtmogglmofbbjlaaKModel
namespace Go.Proofs.Ytmogglmofbbjlaa
open Go Go.RowKit

/-- The places that are reached and not done. -/
def tOf (d : Nat → Int) (dn : Nat → Bool) : Nat → Bool := fun i => decide (0 ≤ d i) && !dn i
/-- What is done was reached. -/
def DnOk (d : Nat → Int) (dn : Nat → Bool) : Prop := ∀ i, dn i = true → 0 ≤ d i
theorem tOf_done {d : Nat → Int} {dn : Nat → Bool} (pc : Nat) : updB (tOf d dn) pc false = tOf d (updB dn pc true) := by
  funext i
  simp only [updB, tOf]
  by_cases e : i = pc
  · simp [e]
  · simp [e]
theorem DnOk.done {d : Nat → Int} {dn : Nat → Bool} (h : DnOk d dn) {pc : Nat} (hp : 0 ≤ d pc) : DnOk d (updB dn pc true) := fun i hi => by
  by_cases e : i = pc
  · rw [e]; exact hp
  · rw [updB_other e] at hi; exact h i hi
theorem reach_other {d : Nat → Int} {t i : Nat} {dep : Int} (h : i ≠ t) : reachD d t dep i = d i := by
  unfold reachD
  split
  · rw [updI_other h]
  · rfl
theorem reach_ge {d : Nat → Int} {t i : Nat} {dep : Int} (h0 : 0 ≤ dep) (hi : 0 ≤ d i) : 0 ≤ reachD d t dep i := by
  unfold reachD
  split
  · by_cases e : i = t
    · rw [e, updI_same]; exact h0
    · rw [updI_other e]; exact hi
  · exact hi
theorem tOf_reach {d : Nat → Int} {dn : Nat → Bool} {t : Nat} {dep : Int} (h : DnOk d dn) (h0 : 0 ≤ dep) : reachT d (tOf d dn) t = tOf (reachD d t dep) dn := by
  funext i
  unfold reachT
  by_cases hd : d t < 0
  · rw [if_pos hd]
    have hn : dn t = false := by
      cases e : dn t with
      | false => rfl
      | true => have := h t e; omega
    by_cases e : i = t
    · rw [e, updB_same]
      simp only [tOf, reachD, if_pos hd, updI_same, hn]
      simp [h0]
    · rw [updB_other e]
      simp only [tOf]
      rw [reach_other e]
  · rw [if_neg hd]
    simp only [tOf, reachD, if_neg hd]
theorem DnOk.reach {d : Nat → Int} {dn : Nat → Bool} {t : Nat} {dep : Int} (h : DnOk d dn) (h0 : 0 ≤ dep) : DnOk (reachD d t dep) dn := fun i hi => reach_ge h0 (h i hi)
/-- Setting the depth is coming to the place, where it was not reached with another one. -/
theorem set_reach {d : Nat → Int} {t : Nat} {dep : Int} (h : reachD d t dep t = dep) : updI d t dep = reachD d t dep := by
  unfold reachD at h ⊢
  split
  · rfl
  · rename_i hd
    rw [if_neg hd] at h
    funext i
    simp only [updI]
    by_cases e : i = t
    · rw [if_pos e, e, h]
    · rw [if_neg e]
theorem reach_at {d : Nat → Int} {t : Nat} {dep : Int} : reachD d t dep t = dep ↔ (d t < 0 ∨ d t = dep) := by
  unfold reachD
  split
  · rename_i h; rw [updI_same]; simp [h]
  · rename_i h; simp [h]

/-- How many places are not done. -/
def left (len : Nat) (d : Nat → Int) (T : Nat → Bool) : Nat := (List.range len).countP fun i => decide (d i < 0) || T i
theorem countP_lt {α : Type} {p q : α → Bool} : ∀ {l : List α}, (∀ x, x ∈ l → q x = true → p x = true) → (∃ x, x ∈ l ∧ p x = true ∧ q x = false) → l.countP q < l.countP p
  | [], _, h => by obtain ⟨x, hx, _⟩ := h; cases hx
  | y :: l, hs, h => by
    have hle : l.countP q ≤ l.countP p := List.countP_mono_left (fun x hx => hs x (List.mem_cons_of_mem _ hx))
    rw [List.countP_cons, List.countP_cons]
    obtain ⟨x, hx, hp, hq⟩ := h
    rcases List.mem_cons.1 hx with e | e
    · subst e
      rw [hp, hq]
      simp
      omega
    · have ih := countP_lt (fun z hz => hs z (List.mem_cons_of_mem _ hz)) ⟨x, e, hp, hq⟩
      cases hqy : q y with
      | false => simp; split <;> omega
      | true => rw [hs y (List.mem_cons_self ..) hqy]; simp; omega
/-- What counts behind coming to places counted ahead. -/
theorem reachAll_sub {dep : Int} (h0 : 0 ≤ dep) : ∀ (l : List Int) (d : Nat → Int) (T : Nat → Bool) (i : Nat), ((reachAll dep l d T).2.1 i < 0 ∨ (reachAll dep l d T).2.2 i = true) → (d i < 0 ∨ T i = true)
  | [], _, _, _, h => h
  | t :: l, d, T, i, h => by
    have hs : (reachD d t.toNat dep i < 0 ∨ reachT d T t.toNat i = true) → (d i < 0 ∨ T i = true) := fun hh => by
      by_cases e : i = t.toNat
      · by_cases hd : d t.toNat < 0
        · exact .inl (by rw [e]; exact hd)
        · rw [e] at hh ⊢
          simp only [reachD, reachT, if_neg hd] at hh
          exact hh
      · rw [reach_other e] at hh
        rcases hh with hh | hh
        · exact .inl hh
        · refine .inr ?_
          unfold reachT at hh
          split at hh
          · rw [updB_other e] at hh; exact hh
          · exact hh
    unfold reachAll at h
    split at h
    · exact hs (reachAll_sub h0 l _ _ i h)
    · exact hs h
theorem look_sub {np : Nat} {fr : Nat → Int} {p : PR} {pc : Nat} {d : Nat → Int} {T : Nat → Bool} (i : Nat) (h : (lookM np fr p pc d T).2.1 i < 0 ∨ (lookM np fr p pc d T).2.2 i = true) : d i < 0 ∨ T i = true := by
  unfold lookM at h
  split at h
  · exact h
  · split at h
    · exact h
    · split at h
      · exact h
      · split at h
        · exact h
        · unfold goOnM at h
          split at h
          · exact reachAll_sub (by omega) _ _ _ i h
          · exact h
theorem look_left {np : Nat} {fr : Nat → Int} {p : PR} {pc : Nat} {d : Nat → Int} {T : Nat → Bool} (hp : pc < p.len) (ht : T pc = true) (hd : 0 ≤ d pc) :
    left p.len (lookM np fr p pc d (updB T pc false)).2.1 (lookM np fr p pc d (updB T pc false)).2.2 < left p.len d T := by
  refine countP_lt (fun i _ hi => ?_) ⟨pc, List.mem_range.2 hp, by simp [ht], ?_⟩
  · have := look_sub i (by simpa using hi)
    rcases this with h | h
    · simp [h]
    · by_cases e : i = pc
      · rw [e, updB_same] at h; cases h
      · rw [updB_other e] at h; simp [h]
  · cases e : (decide ((lookM np fr p pc d (updB T pc false)).2.1 pc < 0) || (lookM np fr p pc d (updB T pc false)).2.2 pc) with
    | false => rfl
    | true =>
      have := look_sub pc (by simpa using e)
      rw [updB_same] at this
      rcases this with h | h
      · omega
      · cases h
theorem left_pos {len pc : Nat} {d : Nat → Int} {T : Nat → Bool} (hp : pc < len) (ht : T pc = true) : 0 < left len d T := by
  unfold left
  rw [List.countP_pos_iff]
  exact ⟨pc, List.mem_range.2 hp, by simp [ht]⟩
theorem left_le (len : Nat) (d : Nat → Int) (T : Nat → Bool) : left len d T ≤ len := by
  have := List.countP_le_length (p := fun i => decide (d i < 0) || T i) (l := List.range len)
  unfold left
  simpa using this

end Go.Proofs.Ytmogglmofbbjlaa
