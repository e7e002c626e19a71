/-
  What is proved here: what a reader of data leaves is of what was there; no walk.
-/
import Derived.Test.YtmgaofpjbeihdaaPRClo
namespace Go.Proofs.Ytmgaofpjbeihdaa
open Go Go.RowKit

def Suf {α : Type} (f : List Nat → Nat → Option (α × List Nat × Nat)) : Prop := ∀ l p x m q, f l p = some (x, m, q) → m <:+ l ∧ q ≤ p
theorem rdRowP_suf {α : Type} {f : List Nat → Nat → Option (α × List Nat × Nat)} (hf : Suf f) : ∀ n, Suf (rdRowP f n)
  | 0, l, p, x, m, q, h => by
    rw [rdRowP_zero] at h
    cases h
    exact ⟨List.suffix_refl _, Nat.le_refl _⟩
  | n + 1, l, p, x, m, q, h => by
    simp only [rdRowP] at h
    split at h
    · cases h
    · rename_i h1
      split at h
      · cases h
      · rename_i h2
        cases h
        have a := hf _ _ _ _ _ h1
        have b := rdRowP_suf hf n _ _ _ _ _ h2
        exact ⟨b.1.trans a.1, Nat.le_trans b.2 a.2⟩
theorem rdDta_suf {α : Type} {f : List Nat → Nat → Option (α × List Nat × Nat)} (hf : Suf f) : Suf (rdDta f) := fun l p x m q h => by
  simp only [rdDta] at h
  split at h
  · cases h
  · rename_i h1
    split at h
    · have a := rdCnt_len h1
      have b := rdRowP_suf hf _ _ _ _ _ _ h
      exact ⟨b.1.trans a.2.2, by omega⟩
    · cases h
theorem rdRst_suf {α : Type} {f : List Nat → Nat → Option (α × List Nat × Nat)} (hf : Suf f) : Suf (rdRst f) := fun l p x m q h => by
  simp only [rdRst] at h
  split at h
  · cases h
  · rename_i h1
    have a := rdFlag_len h1
    split at h
    · split at h
      · split at h
        · cases h
        · rename_i h2
          cases h
          have b := hf _ _ _ _ _ h2
          exact ⟨b.1.trans a.2, by omega⟩
      · cases h
    · cases h
      exact ⟨a.2, Nat.le_refl _⟩
theorem rdTxt_suf {l m : List Nat} {s : ByteArray} (h : rdTxt l = some (s, m)) : m <:+ l := by
  unfold rdTxt at h
  split at h
  · cases h
  · rename_i hn
    cases h
    exact (List.drop_suffix _ _).trans (rdCnt_len hn).2.2
theorem rdLimb_suf {l m : List Nat} {n : Nat} (h : rdLimb l = some (n, m)) : m <:+ l ∧ n ≤ 4294967295 := by
  unfold rdLimb at h
  split at h
  · cases h
  · rename_i hn
    split at h
    · rename_i hq
      cases h
      exact ⟨(rdG_suf _ _ _ _ _ _ hn).2.1, hq⟩
    · cases h
theorem rdRow_limb : ∀ (n : Nat) (l : List Nat) (xs : List Nat) (m : List Nat), rdRow rdLimb n l = some (xs, m) → m <:+ l ∧ ∀ x, x ∈ xs → x < 4294967296
  | 0, l, xs, m, h => by
    rw [rdRow_zero] at h
    cases h
    exact ⟨List.suffix_refl _, fun x hx => by cases hx⟩
  | n + 1, l, xs, m, h => by
    simp only [rdRow] at h
    split at h
    · cases h
    · rename_i h1
      split at h
      · cases h
      · rename_i h2
        cases h
        have a := rdLimb_suf h1
        have b := rdRow_limb n _ _ _ h2
        refine ⟨b.1.trans a.1, fun x hx => ?_⟩
        rcases List.mem_cons.1 hx with e | e
        · subst e; omega
        · exact b.2 x e
theorem rdMag_suf {l m : List Nat} {x : Bool × List Nat} (h : rdMag l = some (x, m)) : m <:+ l ∧ ∀ y, y ∈ x.2 → y < 4294967296 := by
  unfold rdMag at h
  split at h
  · cases h
  · rename_i h1
    split at h
    · cases h
    · rename_i h2
      split at h
      · cases h
      · rename_i h3
        cases h
        have c := rdRow_limb _ _ _ _ h3
        exact ⟨c.1.trans ((rdCnt_len h2).2.2.trans (rdFlag_len h1).2), c.2⟩
theorem rdFld_suf {h : Nat} {f : List Nat → Nat → Option (Tr h × List Nat × Nat)} (hf : Suf f) (k : Nat) : Suf (rdFld f k) := fun l p x m q hx => by
  simp only [rdFld] at hx
  split at hx
  · split at hx
    · cases hx
    · rename_i h1
      cases hx
      exact ⟨(rdMag_suf h1).1, Nat.le_refl _⟩
  · split at hx
    · split at hx
      · cases hx
      · rename_i h1
        cases hx
        exact ⟨(rdSgn_suf h1).2, Nat.le_refl _⟩
    · split at hx
      · split at hx
        · cases hx
        · rename_i h1
          cases hx
          exact ⟨rdTxt_suf h1, Nat.le_refl _⟩
      · split at hx
        · split at hx
          · cases hx
          · rename_i h1
            split at hx
            · cases hx
            · rename_i h2
              cases hx
              exact ⟨(rdSgn_suf h2).2.trans (rdTxt_suf h1), Nat.le_refl _⟩
        · split at hx
          · split at hx
            · cases hx
            · rename_i h1
              split at hx
              · cases hx
              · rename_i h2
                cases hx
                have a := rdDta_suf hf _ _ _ _ _ h1
                have b := rdRst_suf hf _ _ _ _ _ h2
                exact ⟨b.1.trans a.1, Nat.le_trans b.2 a.2⟩
          · split at hx
            · split at hx
              · cases hx
              · rename_i h1
                cases hx
                exact rdDta_suf hf _ _ _ _ _ h1
            · cases hx
              exact ⟨List.suffix_refl _, Nat.le_refl _⟩
theorem rdDat_suf : ∀ (h dp : Nat), Suf (rdDat h dp)
  | 0, _, l, p, x, m, q, hx => by cases hx
  | h + 1, 0, l, p, x, m, q, hx => by cases hx
  | h + 1, dp + 1, l, p, x, m, q, hx => by
    simp only [rdDat] at hx
    split at hx
    · cases hx
    · rename_i h1
      split at hx
      · cases hx
      · rename_i h2
        split at hx
        · cases hx
          have a := rdFld_suf (rdDat_suf h dp) _ _ _ _ _ _ h2
          exact ⟨a.1.trans (rdG_suf _ _ _ _ _ _ h1).2.1, a.2⟩
        · cases hx

end Go.Proofs.Ytmgaofpjbeihdaa
