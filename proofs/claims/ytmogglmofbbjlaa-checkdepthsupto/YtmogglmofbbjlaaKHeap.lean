/-
  What is proved here: plain facts on a row of places that is laid as a tree, the least one first; no walk.
-/
import Derived.Test.YtmogglmofbbjlaaBase
namespace Go.Proofs.Ytmogglmofbbjlaa
open Go Go.RowKit

/-- Places a and b of a row changed for one another. -/
def swp (f : Nat → Nat) (a b : Nat) : Nat → Nat := fun i => if i = a then f b else if i = b then f a else f i
theorem swp_upd (f : Nat → Nat) (a b : Nat) : upd (upd f a (f b)) b (f a) = swp f a b := by
  funext i
  simp only [upd, swp]
  by_cases h1 : i = b
  · by_cases h2 : i = a
    · subst h1; subst h2; simp
    · subst h1; simp [h2]
  · simp [h1]
theorem swp_l (f : Nat → Nat) (a b : Nat) : swp f a b a = f b := by simp [swp]
theorem swp_r (f : Nat → Nat) (a b : Nat) : swp f a b b = f a := by simp only [swp]; split <;> simp_all
theorem swp_o {f : Nat → Nat} {a b i : Nat} (h1 : i ≠ a) (h2 : i ≠ b) : swp f a b i = f i := by simp [swp, h1, h2]
/-- Does x stand among the first n? -/
def Mem (f : Nat → Nat) (n x : Nat) : Prop := ∃ i, i < n ∧ f i = x
/-- No two of the first n are the same. -/
def Inj (f : Nat → Nat) (n : Nat) : Prop := ∀ i j, i < n → j < n → f i = f j → i = j
/-- Each is no less than the one above it. -/
def HeapP (f : Nat → Nat) (n : Nat) : Prop := ∀ i, 0 < i → i < n → f ((i - 1) / 2) ≤ f i

theorem swp_mem {f : Nat → Nat} {a b n x : Nat} (ha : a < n) (hb : b < n) : Mem (swp f a b) n x ↔ Mem f n x := by
  constructor
  · rintro ⟨i, hi, h⟩
    simp only [swp] at h
    by_cases h1 : i = a
    · rw [if_pos h1] at h; exact ⟨b, hb, h⟩
    · rw [if_neg h1] at h
      by_cases h2 : i = b
      · rw [if_pos h2] at h; exact ⟨a, ha, h⟩
      · rw [if_neg h2] at h; exact ⟨i, hi, h⟩
  · rintro ⟨i, hi, h⟩
    by_cases h1 : i = a
    · exact ⟨b, hb, by rw [swp_r, ← h1]; exact h⟩
    · by_cases h2 : i = b
      · exact ⟨a, ha, by rw [swp_l, ← h2]; exact h⟩
      · exact ⟨i, hi, by rw [swp_o h1 h2]; exact h⟩
theorem swp_val (f : Nat → Nat) (a b i : Nat) : swp f a b i = f (if i = a then b else if i = b then a else i) := by
  simp only [swp]
  split
  · rfl
  · split <;> rfl
theorem swp_inj {f : Nat → Nat} {a b n : Nat} (ha : a < n) (hb : b < n) (h : Inj f n) : Inj (swp f a b) n := by
  intro i j hi hj e
  rw [swp_val, swp_val] at e
  have e1 := h _ _ (by split; exact hb; split; exact ha; exact hi) (by split; exact hb; split; exact ha; exact hj) e
  split at e1 <;> split at e1 <;> (try split at e1) <;> (try split at e1) <;> omega

theorem heap_least {f : Nat → Nat} {n : Nat} (h : HeapP f n) : ∀ i, i < n → f 0 ≤ f i := by
  intro i
  induction i using Nat.strongRecOn with
  | _ i ih =>
    intro hi
    by_cases e : i = 0
    · rw [e]; exact Nat.le_refl _
    · exact Nat.le_trans (ih ((i - 1) / 2) (by omega) (by omega)) (h i (by omega) hi)

/-- On the way up: all is right but at one place. -/
structure UpP (f : Nat → Nat) (n at' : Nat) : Prop where
  lt : at' < n
  oth : ∀ i, 0 < i → i < n → i ≠ at' → f ((i - 1) / 2) ≤ f i
  two : 0 < at' → ∀ i, 0 < i → i < n → (i - 1) / 2 = at' → f ((at' - 1) / 2) ≤ f i

theorem upP_start {f : Nat → Nat} {n x : Nat} (h : HeapP f n) : UpP (upd f n x) (n + 1) n := by
  refine ⟨by omega, fun i h0 hi hn => ?_, fun _ i h0 hi e => by omega⟩
  rw [upd_other (by omega), upd_other (by omega)]
  exact h i h0 (by omega)
theorem upP_stop {f : Nat → Nat} {n k : Nat} (h : UpP f n k) (hk : k = 0 ∨ f ((k - 1) / 2) ≤ f k) : HeapP f n := by
  intro i h0 hi
  by_cases e : i = k
  · subst e; rcases hk with hk | hk; omega; exact hk
  · exact h.oth i h0 hi e
theorem upP_step {f : Nat → Nat} {n k : Nat} (h : UpP f n k) (h0 : 0 < k) (hk : f k ≤ f ((k - 1) / 2)) : UpP (swp f ((k - 1) / 2) k) n ((k - 1) / 2) := by
  have hl := h.lt
  generalize hp : (k - 1) / 2 = p at *
  have hpk : p < k := by omega
  refine ⟨by omega, fun i hi0 hi hn => ?_, fun hp0 i hi0 hi e => ?_⟩
  · by_cases e1 : i = k
    · subst e1
      rw [hp, swp_l, swp_r]
      exact hk
    · have e2 : (swp f p k) i = f i := swp_o hn e1
      rw [e2]
      by_cases e3 : (i - 1) / 2 = p
      · rw [e3]
        rw [swp_l]
        have := h.oth i hi0 hi e1
        rw [e3] at this
        omega
      · by_cases e4 : (i - 1) / 2 = k
        · rw [e4]
          rw [swp_r]
          have t := h.two h0 i hi0 hi e4
          rw [hp] at t
          exact t
        · rw [swp_o e3 e4]
          exact h.oth i hi0 hi e1
  · have e5 : (swp f p k) ((p - 1) / 2) = f ((p - 1) / 2) := swp_o (by omega) (by omega)
    rw [e5]
    have hpp := h.oth p hp0 (by omega) (by omega)
    by_cases e1 : i = k
    · subst e1
      rw [swp_r]
      exact hpp
    · have e2 : (swp f p k) i = f i := swp_o (by omega) e1
      rw [e2]
      have := h.oth i hi0 hi e1
      rw [e] at this
      omega

/-- On the way down: all is right but below one place. -/
structure DnP (f : Nat → Nat) (n at' : Nat) : Prop where
  oth : ∀ i, 0 < i → i < n → (i - 1) / 2 ≠ at' → f ((i - 1) / 2) ≤ f i
  two : 0 < at' → ∀ i, 0 < i → i < n → (i - 1) / 2 = at' → f ((at' - 1) / 2) ≤ f i

theorem dnP_start {f : Nat → Nat} {n x : Nat} (h : HeapP f (n + 1)) : DnP (upd f 0 x) n 0 :=
  ⟨fun i h0 hi hn => by rw [upd_other (by omega), upd_other (by omega)]; exact h i h0 (by omega), fun h => by omega⟩
theorem dnP_stop {f : Nat → Nat} {n k : Nat} (h : DnP f n k) (h1 : 2 * k + 1 < n → f k ≤ f (2 * k + 1)) (h2 : 2 * k + 2 < n → f k ≤ f (2 * k + 2)) : HeapP f n := by
  intro i h0 hi
  by_cases e : (i - 1) / 2 = k
  · have : i = 2 * k + 1 ∨ i = 2 * k + 2 := by omega
    rw [e]
    rcases this with rfl | rfl
    · exact h1 hi
    · exact h2 hi
  · exact h.oth i h0 hi e
theorem dnP_step {f : Nat → Nat} {n k c : Nat} (h : DnP f n k) (hc : c < n) (hk : (c - 1) / 2 = k) (h0 : 0 < c) (hle : f c ≤ f k) (hl : ∀ i, 0 < i → i < n → (i - 1) / 2 = k → f c ≤ f i) : DnP (swp f k c) n c := by
  have hkc : k < c := by omega
  refine ⟨fun i hi0 hi hn => ?_, fun _ i hi0 hi e => ?_⟩
  · by_cases e1 : (i - 1) / 2 = k
    · rw [e1]
      have a1 : (swp f k c) k = f c := swp_l _ _ _
      rw [a1]
      by_cases e2 : i = c
      · subst e2
        rw [swp_r]
        exact hle
      · rw [swp_o (by omega) e2]
        exact hl i hi0 hi e1
    · have a2 : (swp f k c) ((i - 1) / 2) = f ((i - 1) / 2) := swp_o e1 hn
      rw [a2]
      by_cases e2 : i = k
      · subst e2
        rw [swp_l]
        exact h.two hi0 c h0 hc hk
      · have : i ≠ c := fun e => e1 (by rw [e]; exact hk)
        rw [swp_o e2 this]
        exact h.oth i hi0 hi e1
  · have a1 : (swp f k c) ((c - 1) / 2) = f c := by rw [hk, swp_l]
    rw [a1]
    have : i ≠ c := by omega
    rw [swp_o (by omega) this]
    have := h.oth i hi0 hi (by omega)
    rw [e] at this
    exact this

/-- What taking the first leaves. -/
theorem take_mem {f : Nat → Nat} {n x : Nat} (hi : Inj f (n + 1)) : Mem (upd f 0 (f n)) n x ↔ (Mem f (n + 1) x ∧ x ≠ f 0) := by
  constructor
  · rintro ⟨i, hin, h⟩
    by_cases e : i = 0
    · subst e
      rw [upd_same] at h
      refine ⟨⟨n, by omega, h⟩, fun e => ?_⟩
      have := hi n 0 (by omega) (by omega) (h.trans e)
      omega
    · rw [upd_other e] at h
      refine ⟨⟨i, by omega, h⟩, fun e' => ?_⟩
      exact e (hi i 0 (by omega) (by omega) (h.trans e'))
  · rintro ⟨⟨i, hin, h⟩, hx⟩
    have hi0 : i ≠ 0 := fun e => hx (by rw [← h, e])
    by_cases e : i = n
    · subst e
      exact ⟨0, by omega, by rw [upd_same]; exact h⟩
    · exact ⟨i, by omega, by rw [upd_other hi0]; exact h⟩
theorem take_inj {f : Nat → Nat} {n : Nat} (hi : Inj f (n + 1)) : Inj (upd f 0 (f n)) n := by
  intro i j h1 h2 e
  by_cases a : i = 0
  · by_cases b : j = 0
    · omega
    · subst a
      rw [upd_same, upd_other b] at e
      have := hi n j (by omega) (by omega) e
      omega
  · by_cases b : j = 0
    · subst b
      rw [upd_same, upd_other a] at e
      have := hi i n (by omega) (by omega) e
      omega
    · rw [upd_other a, upd_other b] at e
      exact hi i j (by omega) (by omega) e
theorem put_mem {f : Nat → Nat} {n x y : Nat} : Mem (upd f n x) (n + 1) y ↔ (Mem f n y ∨ y = x) := by
  constructor
  · rintro ⟨i, hin, h⟩
    by_cases e : i = n
    · subst e; rw [upd_same] at h; exact .inr h.symm
    · rw [upd_other e] at h; exact .inl ⟨i, by omega, h⟩
  · rintro (⟨i, hin, h⟩ | rfl)
    · exact ⟨i, by omega, by rw [upd_other (by omega)]; exact h⟩
    · exact ⟨n, by omega, upd_same _ _ _⟩
theorem put_inj {f : Nat → Nat} {n x : Nat} (hi : Inj f n) (hx : ¬ Mem f n x) : Inj (upd f n x) (n + 1) := by
  intro i j h1 h2 e
  by_cases a : i = n
  · by_cases b : j = n
    · omega
    · subst a
      rw [upd_same, upd_other b] at e
      exact absurd ⟨j, by omega, e.symm⟩ hx
  · by_cases b : j = n
    · subst b
      rw [upd_same, upd_other a] at e
      exact absurd ⟨i, by omega, e⟩ hx
    · rw [upd_other a, upd_other b] at e
      exact hi i j (by omega) (by omega) e

end Go.Proofs.Ytmogglmofbbjlaa
