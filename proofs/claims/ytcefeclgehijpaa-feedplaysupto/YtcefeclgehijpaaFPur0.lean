/-
  What is proved here: a table is the join of what it was given, as plain mathematics.
-/
import Derived.Test.YtcefeclgehijpaaFAdd0
namespace Go.Proofs.Ytcefeclgehijpaa
open Go Go.RowKit

/-- What a place says. -/
def look (p c : Int) : List PM → Int × Int
  | [] => (0, -1)
  | x :: S => if p = x.p ∧ c = x.c then (x.m, x.k) else look p c S
def JJ (a b : Int × Int) : Int × Int := (orI a.1 b.1, jc a.2 b.2)
def Fd.mk2 (f : Fd) : Int × Int := (f.m, f.k)
def Nrm (a : Int × Int) : Prop := orI a.1 0 = a.1 ∧ -2 ≤ a.2
theorem orI_r0 (a b : Int) : orI (orI a b) 0 = orI a b := by rw [orI_bv, bv_orI, orI_bv]; simp
theorem orI_idem (a b : Int) : orI (orI a b) b = orI a b := by rw [orI_assoc, orI_bv, orI_bv a b, bv_orI, BitVec.or_self]
theorem jc_idem (a b : Int) : jc (jc a b) b = jc a b := by unfold jc; grind
theorem JJ_assoc (a b c : Int × Int) : JJ (JJ a b) c = JJ a (JJ b c) := by simp [JJ, orI_assoc, jc_assoc]
theorem JJ_comm (a b : Int × Int) : JJ a b = JJ b a := by simp only [JJ]; rw [orI_comm, jc_comm]
theorem JJ_idem (a b : Int × Int) : JJ (JJ a b) b = JJ a b := by simp [JJ, orI_idem, jc_idem]
theorem JJ_nrm (a b : Int × Int) : Nrm (JJ a b) := ⟨orI_r0 _ _, jc_ge _ _⟩
theorem nrm0 : Nrm (0, -1) := ⟨by decide, by decide⟩
theorem nrm_z {a : Int × Int} (h : Nrm a) : JJ a (0, -1) = a := by
  obtain ⟨h1, h2⟩ := h
  obtain ⟨m, k⟩ := a
  simp only [JJ] at *
  rw [h1]
  have : jc k (-1) = k := by unfold jc; grind
  rw [this]
theorem nrm_self {a : Int × Int} (h : Nrm a) : JJ a a = a := by
  have h1 := JJ_idem (0, -1) a
  rw [JJ_comm (0, -1) a, nrm_z h] at h1
  exact h1

def NrmS (S : List PM) : Prop := ∀ x ∈ S, Nrm (x.m, x.k)
theorem look_nrm (p c : Int) : ∀ {S : List PM}, NrmS S → Nrm (look p c S)
  | [], _ => nrm0
  | x :: S, h => by
    unfold look
    split
    · exact h x (by simp)
    · exact look_nrm p c (fun y hy => h y (by simp [hy]))
theorem ins_nrm (f : Fd) : ∀ {S : List PM}, NrmS S → NrmS (insS f S)
  | [], _ => by
    intro x hx
    simp [insS] at hx
    subst hx
    exact JJ_nrm (0, -1) (f.m, f.k)
  | y :: S, h => by
    intro x hx
    unfold insS at hx
    split at hx
    · rcases List.mem_cons.1 hx with rfl | hx
      · exact JJ_nrm (y.m, y.k) (f.m, f.k)
      · exact h x (by simp [hx])
    · rcases List.mem_cons.1 hx with rfl | hx
      · exact h x (by simp)
      · exact ins_nrm f (fun z hz => h z (by simp [hz])) x hx
theorem add_nrm {S : List PM} (h : NrmS S) (f : Fd) : NrmS (addS S f) := by
  unfold addS
  split
  · exact h
  · exact ins_nrm f h
theorem look_ins (p c : Int) (f : Fd) : ∀ (S : List PM), look p c (insS f S) = if p = f.p ∧ c = f.c then JJ (look p c S) f.mk2 else look p c S
  | [] => by
    simp only [insS, look]
    split <;> rfl
  | x :: S => by
    unfold insS
    by_cases h : f.p = x.p ∧ f.c = x.c
    · rw [if_pos h]
      simp only [look]
      by_cases h2 : p = x.p ∧ c = x.c
      · rw [if_pos h2, if_pos h2, if_pos (show p = f.p ∧ c = f.c by omega)]
        rfl
      · rw [if_neg h2, if_neg h2, if_neg (show ¬ (p = f.p ∧ c = f.c) by omega)]
    · rw [if_neg h]
      simp only [look]
      by_cases h2 : p = x.p ∧ c = x.c
      · rw [if_pos h2, if_pos h2, if_neg (show ¬ (p = f.p ∧ c = f.c) by omega)]
      · rw [if_neg h2, if_neg h2, look_ins p c f S]
theorem look_add (p c : Int) (f : Fd) {S : List PM} (h : NrmS S) : look p c (addS S f) = if p = f.p ∧ c = f.c then JJ (look p c S) f.mk2 else look p c S := by
  unfold addS
  split
  · rename_i h0
    split
    · have e : f.mk2 = (0, -1) := by unfold Fd.mk2; rw [h0.1, h0.2]
      rw [e, nrm_z (look_nrm p c h)]
    · rfl
  · exact look_ins p c f S

/-- What feeds say of a place, all together. -/
def val (p c : Int) (a : Int × Int) : List Fd → Int × Int
  | [] => a
  | f :: l => val p c (if p = f.p ∧ c = f.c then JJ a f.mk2 else a) l
theorem look_fold (p c : Int) : ∀ (l : List Fd) (S : List PM), NrmS S → look p c (l.foldl addS S) = val p c (look p c S) l
  | [], _, _ => rfl
  | f :: l, S, h => by
    simp only [List.foldl_cons, val]
    rw [look_fold p c l _ (add_nrm h f), look_add p c f h]
theorem val_up (p c : Int) : ∀ (l : List Fd) (a : Int × Int), Nrm a → Nrm (val p c a l) ∧ JJ (val p c a l) a = val p c a l
  | [], a, h => ⟨h, nrm_self h⟩
  | f :: l, a, h => by
    simp only [val]
    split
    · obtain ⟨h1, h2⟩ := val_up p c l (JJ a f.mk2) (JJ_nrm _ _)
      refine ⟨h1, ?_⟩
      generalize val p c (JJ a f.mk2) l = X at *
      rw [← h2, JJ_assoc, JJ_comm (JJ a f.mk2) a, ← JJ_assoc a a, nrm_self h]
    · exact val_up p c l a h
theorem val_mem (p c : Int) : ∀ (l : List Fd) (a : Int × Int), Nrm a → ∀ f ∈ l, p = f.p ∧ c = f.c → JJ (val p c a l) f.mk2 = val p c a l
  | [], _, _, f, hf, _ => by cases hf
  | g :: l, a, h, f, hf, hk => by
    simp only [val]
    rcases List.mem_cons.1 hf with rfl | hf
    · rw [if_pos hk]
      obtain ⟨h1, h2⟩ := val_up p c l (JJ a f.mk2) (JJ_nrm _ _)
      generalize val p c (JJ a f.mk2) l = X at *
      rw [← h2, JJ_assoc, JJ_idem]
    · split
      · exact val_mem p c l _ (JJ_nrm _ _) f hf hk
      · exact val_mem p c l _ h f hf hk
theorem val_least (p c : Int) (U : Int × Int) : ∀ (l : List Fd) (a : Int × Int), JJ U a = U → (∀ f ∈ l, p = f.p ∧ c = f.c → JJ U f.mk2 = U) → JJ U (val p c a l) = U
  | [], _, h, _ => h
  | f :: l, a, h, hl => by
    simp only [val]
    split
    · rename_i hk
      refine val_least p c U l _ ?_ (fun g hg => hl g (by simp [hg]))
      rw [← JJ_assoc, h, hl f (by simp) hk]
    · exact val_least p c U l a h (fun g hg => hl g (by simp [hg]))
theorem val_same (p c : Int) {l l' : List Fd} (h1 : ∀ f ∈ l, f ∈ l') (h2 : ∀ f ∈ l', f ∈ l) : val p c (0, -1) l = val p c (0, -1) l' := by
  have a1 := val_up p c l (0, -1) nrm0
  have a2 := val_up p c l' (0, -1) nrm0
  have b1 := val_least p c (val p c (0, -1) l) l' (0, -1) a1.2 (fun f hf hk => val_mem p c l _ nrm0 f (h2 f hf) hk)
  have b2 := val_least p c (val p c (0, -1) l') l (0, -1) a2.2 (fun f hf hk => val_mem p c l' _ nrm0 f (h1 f hf) hk)
  rw [← b1, JJ_comm, b2]

end Go.Proofs.Ytcefeclgehijpaa
