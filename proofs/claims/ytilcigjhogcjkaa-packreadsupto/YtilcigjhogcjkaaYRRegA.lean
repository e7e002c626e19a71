/-
  What is proved here: a region that draws its order: an operation that yields its value in every world that meets S may be taken first, where S is shown behind all operations but some that wait for it (a store into the very cell that was read).
-/
import Derived.OrdersHeld
import Derived.Deep.RegionHeld
namespace Go.Proofs.Ytilcigjhogcjkaa
open Go

section
variable {P : Program} {ops : Array Oper} {Q : Exit → Act → World → Prop} {md : Region.Mode} {S : World → Prop} {A : Nat → Bool}

/-- Whatever order is picked from here on; S holds behind every operation of A. -/
def wpAnyA (P : Program) (md : Region.Mode) (ops : Array Oper) (Q : Exit → Act → World → Prop) (S : World → Prop) (A : Nat → Bool) : Nat → Array Bool → Act → World → Prop
  | 0, listed, a, w => Region.ready md ops listed = [] ∧ Q .normal a w
  | fuel + 1, listed, a, w =>
    (Region.ready md ops listed = [] → Q .normal a w) ∧
    ∀ i ∈ Region.ready md ops listed, wpOp P ops Q i (fun a' w' => (A i = true → S w') ∧ wpAnyA P md ops Q S A fuel (listed.setIfInBounds i true) a' w') a w

theorem wpAny_of_A : ∀ (fuel : Nat) (listed : Array Bool) (a : Act) (w : World), wpAnyA P md ops Q S A fuel listed a w → wpAny P md ops Q fuel listed a w
  | 0, _, _, _, h => h
  | fuel + 1, _, _, _, h => ⟨h.1, fun i hi => wpOp_mono (fun a' w' h' => wpAny_of_A fuel _ a' w' h'.2) (h.2 i hi)⟩

/-- What waits for i, directly or not: C; whatever is not in A is in C. -/
def waits (md : Region.Mode) (ops : Array Oper) (i : Nat) (C A : Nat → Bool) : Bool :=
  (List.range ops.size).all fun j => (A j || C j) && (!C j || match ops[j]? with
    | some o => o.after.any fun e => Region.binds md e && (e.on == i || C e.on)
    | none => true)
theorem waits_spec {i : Nat} {C A : Nat → Bool} (h : waits md ops i C A = true) {j : Nat} {o : Oper} (ho : ops[j]? = some o) :
    (A j = true ∨ C j = true) ∧ (C j = true → ∃ e ∈ o.after, Region.binds md e = true ∧ (e.on = i ∨ C e.on = true)) := by
  unfold waits at h
  rw [List.all_eq_true] at h
  have h1 := h j (List.mem_range.2 (Array.getElem?_eq_some_iff.1 ho).1)
  simp only [ho, Bool.and_eq_true, Bool.or_eq_true] at h1
  refine ⟨h1.1, fun hc => ?_⟩
  rcases h1.2 with h2 | h2
  · rw [hc] at h2
    cases h2
  · obtain ⟨e, he, hb⟩ := Array.any_eq_true'.1 h2
    simp only [Bool.and_eq_true, Bool.or_eq_true, beq_iff_eq] at hb
    exact ⟨e, he, hb.1, hb.2⟩
/-- Of C nothing has come up yet. -/
def noneOf (listed : Array Bool) (C : Nat → Bool) : Bool := (List.range listed.size).all fun k => !C k || !listed.getD k false
theorem noneOf_spec {listed : Array Bool} {C : Nat → Bool} (h : noneOf listed C = true) (k : Nat) (hc : C k = true) : listed.getD k false = false := by
  unfold noneOf at h
  rw [List.all_eq_true] at h
  rcases Nat.lt_or_ge k listed.size with hk | hk
  · have h1 := h k (List.mem_range.2 hk)
    simp only [hc, Bool.not_true, Bool.false_or] at h1
    cases hv : listed.getD k false with
    | false => rfl
    | true => rw [hv] at h1; cases h1
  · simp [Array.getElem?_eq_none hk]

theorem wpAnyA_first {i : Nat} {oi : Oper} {v : Value} {C : Nat → Bool} (hi : ops[i]? = some oi) (hsel : ∀ (j : Nat) (o : Oper) cs b, ops[j]? = some o → o.op ≠ .select cs b)
    (hQ : ∀ c a w, Q (.panic c) (a.put oi.dst v) w → Q (.panic c) a w)
    (hC : ∀ (j : Nat) (o : Oper), ops[j]? = some o → (A j = true ∨ C j = true) ∧ (C j = true → ∃ e ∈ o.after, Region.binds md e = true ∧ (e.on = i ∨ C e.on = true))) :
    ∀ (fuel : Nat) (listed : Array Bool) (a : Act) (w : World),
      (∀ j oj, ops[j]? = some oj → j ≠ i → listed.getD j true = false → (∀ e ∈ oj.after, Region.binds md e = true → e.on ≠ i) → oi.apart ops oj = true) →
      (∀ k, C k = true → listed.getD k false = false) →
      i ∈ Region.ready md ops listed → YieldsIf P ops S oi v a → S w →
      wpAnyA P md ops Q S A fuel (listed.setIfInBounds i true) (a.put oi.dst v) w → wpAnyA P md ops Q S A (fuel + 1) listed a w := by
  intro fuel
  induction fuel with
  | zero =>
    intro listed a w _ _ hr hy hS H
    refine ⟨fun h => (by rw [h] at hr; cases hr), fun j hj => ?_⟩
    by_cases hji : j = i
    · subst hji; exact hy.wpOp hi hS ⟨fun _ => hS, H⟩
    · have := ready_mono hj hji
      rw [H.1] at this
      cases this
  | succ fuel ih =>
    intro listed a w hfree hnone hr hy hS H
    refine ⟨fun h => (by rw [h] at hr; cases hr), fun j hj => ?_⟩
    by_cases hji : j = i
    · subst hji; exact hy.wpOp hi hS ⟨fun _ => hS, H⟩
    · have h1 := H.2 j (ready_mono hj hji)
      obtain ⟨hjun, oj, hoj, hall⟩ := mem_ready.1 hj
      have hiun : listed.getD i false = false := by
        have h0 := (mem_ready.1 hr).1
        rcases Nat.lt_or_ge i listed.size with h' | h'
        · simp [h'] at h0 ⊢; exact h0
        · simp [Array.getElem?_eq_none h']
      have hCj : C j = false := by
        cases hc : C j with
        | false => rfl
        | true =>
          obtain ⟨e, he, hb, hon⟩ := (hC j oj hoj).2 hc
          have h2 := hall e he hb
          rcases hon with hon | hon
          · rw [hon, hiun] at h2; cases h2
          · rw [hnone _ hon] at h2; cases h2
      have hAj : A j = true := by
        rcases (hC j oj hoj).1 with h2 | h2
        · exact h2
        · rw [hCj] at h2; cases h2
      have hnot : ∀ e ∈ oj.after, Region.binds md e = true → e.on ≠ i := fun e he hb heq => by
        have h1 := hall e he hb
        rw [heq, hiun] at h1
        cases h1
      have h2 := wpOp_putIf hoj (hfree j oj hoj hji hjun hnot) (fun cs b => hsel i oi cs b hi) (fun cs b => hsel j oj cs b hoj) hQ hy h1
      have hfree' : ∀ k ok, ops[k]? = some ok → k ≠ i → (listed.setIfInBounds j true).getD k true = false →
          (∀ e ∈ ok.after, Region.binds md e = true → e.on ≠ i) → oi.apart ops ok = true := fun k ok hk hki hun hno => by
        refine hfree k ok hk hki ?_ hno
        by_cases hjk : j = k
        · subst hjk; exact hjun
        · rw [getD_set_ne true hjk] at hun; exact hun
      have hnone' : ∀ k, C k = true → (listed.setIfInBounds j true).getD k false = false := fun k hk => by
        by_cases hjk : j = k
        · subst hjk; rw [hCj] at hk; cases hk
        · rw [getD_set_ne false hjk]; exact hnone k hk
      refine wpOp_mono (fun a' w' h3 => ⟨h3.2.1, ih (listed.setIfInBounds j true) a' w' hfree' hnone' (ready_mono hr (Ne.symm hji)) h3.1 (h3.2.1 hAj) ?_⟩) h2
      rw [Array.setIfInBounds_comm _ _ hji]
      exact h3.2.2

/-- Take number i first. -/
theorem wpAnyA_take {i : Nat} {oi : Oper} {v : Value} (C : Nat → Bool) {fuel : Nat} {listed : Array Bool} {a : Act} {w : World} (hi : ops[i]? = some oi)
    (hs : Region.noSelect ops = true) (hf : Region.free md ops listed i = true) (hr : (Region.ready md ops listed).contains i = true) (hC : waits md ops i C A = true) (hn : noneOf listed C = true)
    (hQ : ∀ c a w, Q (.panic c) (a.put oi.dst v) w → Q (.panic c) a w) (hy : YieldsIf P ops S oi v a) (hS : S w)
    (h : wpAnyA P md ops Q S A fuel (listed.setIfInBounds i true) (a.put oi.dst v) w) : wpAnyA P md ops Q S A (fuel + 1) listed a w :=
  wpAnyA_first hi (Region.noSelect_spec hs) hQ (fun _ _ ho => waits_spec hC ho) fuel listed a w (Region.free_spec hi hf) (fun k hk => noneOf_spec hn k hk) (by simpa using hr) hy hS h
theorem wpAnyA_done {listed : Array Bool} {a : Act} {w : World} (hr : Region.ready md ops listed = []) (h : Q .normal a w) :
    ∀ fuel, wpAnyA P md ops Q S A fuel listed a w
  | 0 => ⟨hr, h⟩
  | _ + 1 => ⟨fun _ => h, by rw [hr]; simp⟩
/-- The only one that may come up, of A: S is shown behind it. -/
theorem wpAnyA_one {i : Nat} {o : Oper} {fuel : Nat} {listed : Array Bool} {a : Act} {w : World} (hr : Region.ready md ops listed = [i]) (ho : ops[i]? = some o)
    (h : ∀ K' : Act → World → Prop, Shut (∀ a w, S w → (S w → wpAnyA P md ops Q S A fuel (listed.setIfInBounds i true) a w) → K' a w) → if Region.wanted o (yielded ops a.tmps) = true then Oper.wp P o a w K' Q else K' (a.put o.dst undef) w) :
    wpAnyA P md ops Q S A (fuel + 1) listed a w := by
  refine ⟨fun h0 => (by rw [hr] at h0; cases h0), fun j hj => ?_⟩
  rw [hr] at hj
  obtain rfl := List.mem_singleton.1 hj
  exact wpOp_step ho (fun K' hK => h K' (fun a w hS hW => hK a w ⟨fun _ => hS, hW hS⟩))
/-- The only one that may come up, not of A. -/
theorem wpAnyA_oneB {i : Nat} {o : Oper} {fuel : Nat} {listed : Array Bool} {a : Act} {w : World} (hr : Region.ready md ops listed = [i]) (ho : ops[i]? = some o) (hA : A i = false)
    (h : ∀ K' : Act → World → Prop, Shut (∀ a w, wpAnyA P md ops Q S A fuel (listed.setIfInBounds i true) a w → K' a w) → if Region.wanted o (yielded ops a.tmps) = true then Oper.wp P o a w K' Q else K' (a.put o.dst undef) w) :
    wpAnyA P md ops Q S A (fuel + 1) listed a w := by
  refine ⟨fun h0 => (by rw [hr] at h0; cases h0), fun j hj => ?_⟩
  rw [hr] at hj
  obtain rfl := List.mem_singleton.1 hj
  exact wpOp_step ho (fun K' hK => h K' (fun a w hW => hK a w ⟨fun e => (by rw [hA] at e; cases e), hW⟩))
/-- The beginning. -/
theorem wp_region_A {id : Nat} {a : Act} {w : World} (A : Nat → Bool) (S : World → Prop) (hm : P.follows .mixedOrders = true) (hS : S w.drew)
    (h : S w.drew → wpAnyA P .any ops Q S A ops.size (Array.replicate ops.size false) a w.drew) : (Code.region id ops true).wp P Q a w :=
  wp_region_any hm (wpAny_of_A _ _ _ _ (h hS))
end
end Go.Proofs.Ytilcigjhogcjkaa
