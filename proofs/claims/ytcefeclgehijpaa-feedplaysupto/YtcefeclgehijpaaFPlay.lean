/-
  What is proved here: the program's table and the document's, as plain mathematics: what is done to both leaves them saying the same.
-/
import Derived.Test.YtcefeclgehijpaaFRefI
import Derived.Test.YtcefeclgehijpaaFRefJ
import Derived.Test.YtcefeclgehijpaaFTwo
namespace Go.Proofs.Ytcefeclgehijpaa
open Go Go.RowKit

/-- Two tables say the same. -/
structure EQ (S M : List PM) : Prop where
  lk : ∀ p c, look p c S = look p c M
  tm : ∀ p c, times p c S = times p c M
  n1 : NrmS S
  n2 : NrmS M
  ky : (M.map fun x => (x.p, x.c)).Nodup
theorem eq_nil : EQ [] [] := ⟨fun _ _ => rfl, fun _ _ => rfl, (fun x hx => by cases hx), (fun x hx => by cases hx), List.Pairwise.nil⟩
theorem times_ins (p c : Int) (f : Fd) : ∀ (S : List PM), times p c (insS f S) = times p c S
  | [] => by
    simp only [insS, times]
    split <;> rfl
  | x :: S => by
    unfold insS
    by_cases h : f.p = x.p ∧ f.c = x.c
    · rw [if_pos h]
      rfl
    · rw [if_neg h]
      simp only [times]
      rw [times_ins p c f S]
theorem times_add (p c : Int) (f : Fd) (S : List PM) : times p c (addS S f) = times p c S := by
  unfold addS
  split
  · rfl
  · exact times_ins p c f S
theorem ins_ky (f : Fd) : ∀ {S : List PM}, (S.map fun x => (x.p, x.c)).Nodup → ((insS f S).map fun x => (x.p, x.c)).Nodup
  | [], _ => by simp [insS]
  | y :: S, h => by
    rw [List.map_cons, List.nodup_cons] at h
    unfold insS
    split
    · rw [List.map_cons, List.nodup_cons]
      exact h
    · rename_i hne
      rw [List.map_cons, List.nodup_cons]
      refine ⟨fun hm => ?_, ins_ky f h.2⟩
      obtain ⟨z, hz, e⟩ := List.mem_map.1 hm
      rcases ins_keys f S z hz with ⟨q, hq, e2⟩ | e2
      · exact h.1 (List.mem_map.2 ⟨q, hq, e2.symm.trans e⟩)
      · rw [e2] at e
        simp only [keyF, Prod.mk.injEq] at e
        exact hne e
theorem EQ.ins {S M : List PM} (h : EQ S M) (f : Fd) : EQ (addS S f) (insS f M) where
  lk p c := by rw [look_add p c f h.n1, look_ins, h.lk]
  tm p c := by rw [times_add, times_ins, h.tm]
  n1 := add_nrm h.n1 f
  n2 := ins_nrm f h.n2
  ky := ins_ky f h.ky
theorem EQ.insN {S M : List PM} (h : EQ S M) (g : Nat → Fd) : ∀ n, EQ (addN g S n) (insN g M n)
  | 0 => h
  | n + 1 => (EQ.insN h g n).ins (g n)
theorem look_ent (p c p' c' : Int) : ∀ (S : List PM), look p c (entS p' c' S) = look p c S
  | [] => by
    simp only [entS, look]
    split <;> rfl
  | x :: S => by
    unfold entS
    split
    · rfl
    · simp only [look]
      rw [look_ent p c p' c' S]
theorem times_ent (p c p' c' : Int) : ∀ (S : List PM), times p c (entS p' c' S) = if p = p' ∧ c = c' then times p c S + 1 else times p c S
  | [] => by
    simp only [entS, times]
    split <;> rfl
  | x :: S => by
    unfold entS
    by_cases h : p' = x.p ∧ c' = x.c
    · rw [if_pos h]
      simp only [times]
      by_cases h2 : p = x.p ∧ c = x.c
      · rw [if_pos h2, if_pos h2, if_pos (by omega)]
      · rw [if_neg h2, if_neg h2, if_neg (by omega)]
    · rw [if_neg h]
      simp only [times]
      by_cases h2 : p = x.p ∧ c = x.c
      · rw [if_pos h2, if_pos h2, if_neg (by omega)]
      · rw [if_neg h2, if_neg h2, times_ent p c p' c' S]
theorem ent_nrm (p c : Int) : ∀ {S : List PM}, NrmS S → NrmS (entS p c S)
  | [], _ => by
    intro x hx
    simp [entS] at hx
    subst hx
    exact nrm0
  | y :: S, h => by
    intro x hx
    unfold entS at hx
    split at hx
    · rcases List.mem_cons.1 hx with rfl | hx
      · exact h y (by simp)
      · exact h x (by simp [hx])
    · rcases List.mem_cons.1 hx with rfl | hx
      · exact h x (by simp)
      · exact ent_nrm p c (fun z hz => h z (by simp [hz])) x hx
theorem ent_keys (p c : Int) : ∀ (S : List PM), ∀ x ∈ entS p c S, (∃ y ∈ S, (x.p, x.c) = (y.p, y.c)) ∨ (x.p, x.c) = (p, c)
  | [], x, hx => by
    simp [entS] at hx
    subst hx
    exact .inr rfl
  | y :: S, x, hx => by
    unfold entS at hx
    split at hx
    · rcases List.mem_cons.1 hx with rfl | hx
      · exact .inl ⟨y, by simp, rfl⟩
      · exact .inl ⟨x, by simp [hx], rfl⟩
    · rcases List.mem_cons.1 hx with rfl | hx
      · exact .inl ⟨x, by simp, rfl⟩
      · rcases ent_keys p c S x hx with ⟨z, hz, e⟩ | e
        · exact .inl ⟨z, by simp [hz], e⟩
        · exact .inr e
theorem ent_ky (p c : Int) : ∀ {S : List PM}, (S.map fun x => (x.p, x.c)).Nodup → ((entS p c S).map fun x => (x.p, x.c)).Nodup
  | [], _ => by simp [entS]
  | y :: S, h => by
    rw [List.map_cons, List.nodup_cons] at h
    unfold entS
    split
    · rw [List.map_cons, List.nodup_cons]
      exact h
    · rename_i hne
      rw [List.map_cons, List.nodup_cons]
      refine ⟨fun hm => ?_, ent_ky p c h.2⟩
      obtain ⟨z, hz, e⟩ := List.mem_map.1 hm
      rcases ent_keys p c S z hz with ⟨q, hq, e2⟩ | e2
      · exact h.1 (List.mem_map.2 ⟨q, hq, e2.symm.trans e⟩)
      · rw [e2] at e
        simp only [Prod.mk.injEq] at e
        exact hne e
theorem EQ.ent {S M : List PM} (h : EQ S M) (p c : Int) : EQ (entS p c S) (entS p c M) where
  lk p' c' := by rw [look_ent, look_ent, h.lk]
  tm p' c' := by rw [times_ent, times_ent, h.tm]
  n1 := ent_nrm p c h.n1
  n2 := ent_nrm p c h.n2
  ky := ent_ky p c h.ky
/-- How many places there are at most. -/
theorem add_len (f : Fd) (S : List PM) : (addS S f).length ≤ S.length + 1 := by
  unfold addS
  split
  · omega
  · exact (ins_len f S).2
theorem addN_len (g : Nat → Fd) (S : List PM) : ∀ n, (addN g S n).length ≤ S.length + n
  | 0 => by simp [addN]
  | n + 1 => by
    have h1 := addN_len g S n
    have h2 := add_len (g n) (addN g S n)
    simp only [addN]
    omega
theorem ent_len (p c : Int) : ∀ (S : List PM), (entS p c S).length ≤ S.length + 1
  | [] => by simp [entS]
  | y :: S => by
    unfold entS
    split
    · simp
    · have := ent_len p c S
      simp only [List.length_cons]
      omega
/-- How often places were entered at most. -/
def NB (S : List PM) (N : Nat) : Prop := ∀ x ∈ S, 0 ≤ x.n ∧ x.n ≤ (N : Int)
theorem NB.up {S : List PM} {N N' : Nat} (h : NB S N) (hN : N ≤ N') : NB S N' := fun x hx => ⟨(h x hx).1, by have := (h x hx).2; omega⟩
theorem NB.ins {N : Nat} (f : Fd) : ∀ {S : List PM}, NB S N → NB (insS f S) N
  | [], _ => by
    intro x hx
    simp [insS] at hx
    subst hx
    exact ⟨Int.le_refl _, by simp⟩
  | y :: S, h => by
    intro x hx
    unfold insS at hx
    split at hx
    · rcases List.mem_cons.1 hx with rfl | hx
      · exact h y (by simp)
      · exact h x (by simp [hx])
    · rcases List.mem_cons.1 hx with rfl | hx
      · exact h x (by simp)
      · exact NB.ins f (fun z hz => h z (by simp [hz])) x hx
theorem NB.add {N : Nat} {S : List PM} (h : NB S N) (f : Fd) : NB (addS S f) N := by
  unfold addS
  split
  · exact h
  · exact h.ins f
theorem NB.addN {N : Nat} {S : List PM} (h : NB S N) (g : Nat → Fd) : ∀ n, NB (addN g S n) N
  | 0 => h
  | n + 1 => (NB.addN h g n).add (g n)
theorem NB.insN {N : Nat} {S : List PM} (h : NB S N) (g : Nat → Fd) : ∀ n, NB (insN g S n) N
  | 0 => h
  | n + 1 => (NB.insN h g n).ins (g n)
theorem NB.ent {N : Nat} (p c : Int) : ∀ {S : List PM}, NB S N → NB (entS p c S) (N + 1)
  | [], _ => by
    intro x hx
    simp [entS] at hx
    subst hx
    exact ⟨by dsimp only; omega, by dsimp only; omega⟩
  | y :: S, h => by
    intro x hx
    unfold entS at hx
    split at hx
    · rcases List.mem_cons.1 hx with rfl | hx
      · have := h y (by simp)
        exact ⟨by dsimp only; omega, by dsimp only; omega⟩
      · have := h x (by simp [hx])
        exact ⟨this.1, by omega⟩
    · rcases List.mem_cons.1 hx with rfl | hx
      · have := h x (by simp)
        exact ⟨this.1, by omega⟩
      · exact NB.ent p c (fun z hz => h z (by simp [hz])) x hx
/-- Both tell the same feeds. -/
theorem EQ.all {T : List PL} {M : List PM} (h : EQ (T.map PL.pm) M) (ky : (T.map fun x => (x.e.p, x.e.c)).Nodup) {L L' : List Fd}
    (h1 : L.Perm (fds T)) (h2 : L'.Perm (fdsM M)) (s1 : L.Pairwise (fun x y => ¬ ltF y x)) (s2 : L'.Pairwise (fun x y => ¬ ltF y x)) : L = L' :=
  all_same (T' := toPL M) ky (by rw [toPL_keys]; exact h.ky) (fun p c => by rw [toPL_pm]; exact h.lk p c) h1 (by rw [toPL_fds]; exact h2) s1 s2

/-- Any feeds can be laid in order. -/
theorem sorted_in (f : Fd) : ∀ (L : List Fd), L.Pairwise (fun x y => ¬ ltF y x) → ∃ L' : List Fd, L'.Perm (f :: L) ∧ L'.Pairwise (fun x y => ¬ ltF y x)
  | [], _ => ⟨[f], List.Perm.refl _, by simp⟩
  | x :: L, h => by
    obtain ⟨h1, h2⟩ := List.pairwise_cons.1 h
    rcases Classical.em (ltF x f) with hx | hx
    · obtain ⟨L', p1, p2⟩ := sorted_in f L h2
      refine ⟨x :: L', ((List.perm_cons x).2 p1).trans (List.Perm.swap f x L), List.pairwise_cons.2 ⟨fun y hy => ?_, p2⟩⟩
      rcases List.mem_cons.1 (p1.mem_iff.1 hy) with rfl | hy
      · unfold ltF at *
        omega
      · exact h1 y hy
    · refine ⟨f :: x :: L, List.Perm.refl _, List.pairwise_cons.2 ⟨fun y hy => ?_, h⟩⟩
      rcases List.mem_cons.1 hy with rfl | hy
      · exact hx
      · have := h1 y hy
        unfold ltF at *
        omega
theorem sorted_of : ∀ (F : List Fd), ∃ L : List Fd, L.Perm F ∧ L.Pairwise (fun x y => ¬ ltF y x)
  | [] => ⟨[], List.Perm.refl _, List.Pairwise.nil⟩
  | f :: F => by
    obtain ⟨L, p1, p2⟩ := sorted_of F
    obtain ⟨L', q1, q2⟩ := sorted_in f L p2
    exact ⟨L', q1.trans ((List.perm_cons f).2 p1), q2⟩
theorem sorted_ex (M : List PM) : ∃ L : List Fd, L.Perm (fdsM M) ∧ L.Pairwise (fun x y => ¬ ltF y x) := sorted_of _
theorem sorted_exT (T : List PL) : ∃ L : List Fd, L.Perm (fds T) ∧ L.Pairwise (fun x y => ¬ ltF y x) := sorted_of _

end Go.Proofs.Ytcefeclgehijpaa
