/-
  What is proved here: a region that draws its order of evaluation, whose operations lay new variables, store into these or into older ones once, and else only lay memory: by what each operation gives.
-/
import Derived.Test.YtkmpobmpencefaaDoorRegRel
import Derived.Test.YtkmpobmpencefaaDoorNText
namespace Go.Proofs.YtkmpobmpencefaaDoor
open Go Go.RowKit

/-- What an operation gives: a value, of which p holds (p may look at what the operations ds gave, and at the blocks that were laid while it ran); or a new variable of n cells; or nothing: it stores what operation src gave into the variable that operation bx laid; or into the variable at block g, which was there ahead of the region. -/
abbrev Knd := Sum (List Nat × (World → Got → List Value → Prop)) (Sum (TypeId × Nat) (Sum (Nat × Nat × TypeId × Nat) (Nat × Nat × TypeId × Nat)))
abbrev Knd.val (ds : List Nat) (p : World → Got → List Value → Prop) : Knd := .inl (ds, p)
abbrev Knd.box (E : TypeId) (n : Nat) : Knd := .inr (.inl (E, n))
abbrev Knd.sto (bx src : Nat) (E : TypeId) (n : Nat) : Knd := .inr (.inr (.inl (bx, src, E, n)))
abbrev Knd.old (g src : Nat) (E : TypeId) (n : Nat) : Knd := .inr (.inr (.inr (g, src, E, n)))

def Knd.holds (wb : World) (k : Knd) (j : Nat) (x : Nat → Got) (w : World) : Prop :=
  match k with
  | .inl (ds, p) => p w (x j) (ds.map fun i => (x i).v)
  | .inr (.inl (E, n)) => (x j).v = .pointer (some ⟨(x j).lo, 0, none⟩) ∧ (x j).lo < (x j).hi ∧ wb.heap.size ≤ (x j).lo ∧ ∃ cs : Array Value, cs.size = n ∧ w.heap[(x j).lo]? = some (.cells cs E (0, 0))
  | .inr (.inr (.inl (bx, src, E, n))) => ∃ cs : Array Value, cs.size = n ∧ (x src).v = .agg cs ∧ w.heap[(x bx).lo]? = some (.cells cs E (0, 0))
  | .inr (.inr (.inr (g, src, E, n))) => ∃ cs : Array Value, cs.size = n ∧ (x src).v = .agg cs ∧ w.heap[g]? = some (.cells cs E (0, 0))

def kR (wb : World) (ks : List Knd) (j : Nat) (x : Nat → Got) (w : World) : Prop := match ks[j]? with | some k => Knd.holds wb k j x w | none => True

def Knd.Stable : Knd → Prop
  | .inl (_, p) => ∀ w w' g vs, (∀ b, g.lo ≤ b → b < g.hi → w'.heap[b]? = w.heap[b]?) → p w g vs → p w' g vs
  | _ => True
def AllStable : List Knd → Prop
  | [] => True
  | k :: ks => Knd.Stable k ∧ AllStable ks
theorem AllStable.get : ∀ {ks : List Knd}, AllStable ks → ∀ (j : Nat) (k : Knd), ks[j]? = some k → Knd.Stable k
  | _ :: _, h, 0, _, e => by cases e; exact h.1
  | _ :: _, h, j + 1, k, e => AllStable.get h.2 j k (by simpa using e)

/-- The older variable that is stored into. -/
def oldG : Knd → Option Nat
  | .inr (.inr (.inr (g, _, _, _))) => some g
  | _ => none
/-- Older variables: from a on, below b, each stored into once. -/
def OldsIn (a b : Nat) : List Knd → Prop
  | [] => True
  | k :: ks => (match oldG k with | some g => a ≤ g ∧ g < b ∧ ∀ k' ∈ ks, oldG k' ≠ some g | none => True) ∧ OldsIn a b ks
theorem OldsIn.get {a b : Nat} : ∀ {ks : List Knd}, OldsIn a b ks → ∀ (j : Nat) (k : Knd) (g : Nat), ks[j]? = some k → oldG k = some g → a ≤ g ∧ g < b
  | k :: _, h, 0, k', g, e, eg => by
    cases e
    have := h.1
    rw [eg] at this
    exact ⟨this.1, this.2.1⟩
  | _ :: _, h, j + 1, k, g, e, eg => OldsIn.get h.2 j k g (by simpa using e) eg
theorem OldsIn.uniq {a b : Nat} : ∀ {ks : List Knd}, OldsIn a b ks → ∀ (i j : Nat) (k k' : Knd) (g : Nat), ks[i]? = some k → ks[j]? = some k' → oldG k = some g → oldG k' = some g → i = j
  | k0 :: ks, h, 0, 0, _, _, _, _, _, _, _ => rfl
  | k0 :: ks, h, 0, j + 1, k, k', g, e, e', eg, eg' => by
    cases e
    have := h.1
    rw [eg] at this
    exact absurd eg' (this.2.2 k' (List.mem_of_getElem? (by simpa using e')))
  | k0 :: ks, h, i + 1, 0, k, k', g, e, e', eg, eg' => by
    cases e'
    have := h.1
    rw [eg'] at this
    exact absurd eg (this.2.2 k (List.mem_of_getElem? (by simpa using e)))
  | k0 :: ks, h, i + 1, j + 1, k, k', g, e, e', eg, eg' => by
    have := OldsIn.uniq h.2 i j k k' g (by simpa using e) (by simpa using e') eg eg'
    omega

def kndB (ks : List Knd) (deps : List (List Nat)) : Bool :=
  (List.range ks.length).all fun j => match ks[j]? with
    | some (.inl (ds, _)) => ds.all fun i => (depsOf deps j).contains i
    | some (.inr (.inr (.inl (bx, src, E, n)))) => (depsOf deps j).contains bx && ((depsOf deps j).contains src && ((match ks[bx]? with | some (.inr (.inl (E', n'))) => E == E' && n == n' | _ => false) &&
        (List.range ks.length).all fun i => i == j || match ks[i]? with | some (.inr (.inr (.inl (bx', _, _, _)))) => bx' != bx | _ => true))
    | some (.inr (.inr (.inr (_, src, _, _)))) => (depsOf deps j).contains src
    | _ => true

theorem kndB_val {ks : List Knd} {deps : List (List Nat)} (h : kndB ks deps = true) {j : Nat} {ds : List Nat} {p : World → Got → List Value → Prop} (e : ks[j]? = some (Knd.val ds p)) : ∀ i ∈ ds, i ∈ depsOf deps j := by
  have := (List.all_eq_true.1 h) j (List.mem_range.2 (List.getElem?_eq_some_iff.1 e).1)
  simp only [e] at this
  exact fun i hi => List.contains_iff_mem.1 ((List.all_eq_true.1 this) i hi)
theorem kndB_old {ks : List Knd} {deps : List (List Nat)} (h : kndB ks deps = true) {j g src n : Nat} {E : TypeId} (e : ks[j]? = some (Knd.old g src E n)) : src ∈ depsOf deps j := by
  have := (List.all_eq_true.1 h) j (List.mem_range.2 (List.getElem?_eq_some_iff.1 e).1)
  simp only [e] at this
  exact List.contains_iff_mem.1 this
theorem kndB_sto {ks : List Knd} {deps : List (List Nat)} (h : kndB ks deps = true) {j bx src n : Nat} {E : TypeId} (e : ks[j]? = some (Knd.sto bx src E n)) :
    bx ∈ depsOf deps j ∧ src ∈ depsOf deps j ∧ ks[bx]? = some (Knd.box E n) ∧ ∀ (i src' n' : Nat) (E' : TypeId), ks[i]? = some (Knd.sto bx src' E' n') → i = j := by
  have := (List.all_eq_true.1 h) j (List.mem_range.2 (List.getElem?_eq_some_iff.1 e).1)
  simp only [e, Bool.and_eq_true, List.contains_iff_mem] at this
  obtain ⟨h1, h2, h3, h4⟩ := this
  refine ⟨h1, h2, ?_, fun i src' n' E' hi => ?_⟩
  · cases hb : ks[bx]? with
    | none => rw [hb] at h3; cases h3
    | some k =>
      rw [hb] at h3
      rcases k with ⟨ds, p⟩ | ⟨E', n'⟩ | ⟨a, b, c, d⟩ | ⟨a, b, c, d⟩
      · cases h3
      · simp only [Bool.and_eq_true, beq_iff_eq] at h3; rw [h3.1, h3.2]
      · cases h3
      · cases h3
  · have := (List.all_eq_true.1 h4) i (List.mem_range.2 (List.getElem?_eq_some_iff.1 hi).1)
    simpa [hi] using this

/-- Nothing but block g has turned. -/
structure Turn (g : Nat) (w w' : World) : Prop where
  os : w'.os = w.os
  tape : w'.tape = w.tape
  output : w'.output = w.output
  size : w'.heap.size = w.heap.size
  block : ∀ b, b ≠ g → w'.heap[b]? = w.heap[b]?
theorem Turn.up {g : Nat} {a w w' : World} (t : Turn g w w') (u : Up a w) (hg : a.heap.size ≤ g) : Up a w' :=
  ⟨t.os.trans u.os, t.tape.trans u.tape, t.output.trans u.output, by rw [t.size]; exact u.size, fun k hk => (t.block k (by omega)).trans (u.block k hk)⟩
theorem turn_setCell (w : World) (g i : Nat) (v : Value) : Turn g w (w.setCell ⟨g, i, none⟩ v) :=
  ⟨rfl, rfl, rfl, by simp [World.setCell], fun b hb => heap_setCell_other _ _ _ _ (show b ≠ g from hb)⟩
theorem Turn.trans {g : Nat} {a b c : World} (h : Turn g a b) (k : Turn g b c) : Turn g a c :=
  ⟨k.os.trans h.os, k.tape.trans h.tape, k.output.trans h.output, k.size.trans h.size, fun i hi => (k.block i hi).trans (h.block i hi)⟩

/-- Of what was there ahead of the region nothing has turned but the older variables that are stored into. -/
structure Since (wb : World) (ks : List Knd) (w : World) : Prop where
  os : w.os = wb.os
  tape : w.tape = wb.tape
  output : w.output = wb.output
  size : wb.heap.size ≤ w.heap.size
  rest : ∀ b, b < wb.heap.size → (∀ k ∈ ks, oldG k ≠ some b) → w.heap[b]? = wb.heap[b]?
theorem Since.up {wf wb w : World} {ks : List Knd} (h : Since wb ks w) (u : Up wf wb) (ho : OldsIn wf.heap.size wb.heap.size ks) : Up wf w :=
  ⟨h.os.trans u.os, h.tape.trans u.tape, h.output.trans u.output, Nat.le_trans u.size h.size, fun b hb => (h.rest b (Nat.lt_of_lt_of_le hb u.size) (fun k hk e => by
    obtain ⟨j, hj⟩ := List.getElem?_of_mem hk
    have := (ho.get j k b hj e).1
    omega)).trans (u.block b hb)⟩
theorem Since.upb {wb w : World} {ks : List Knd} (h : Since wb ks w) (hn : ks.all (fun k => (oldG k).isNone) = true) : Up wb w :=
  ⟨h.os, h.tape, h.output, h.size, fun b hb => h.rest b hb (fun k hk e => by have := (List.all_eq_true.1 hn) k hk; rw [e] at this; cases this)⟩

/-- Block b is none of the older variables that are stored into. -/
def NotOld (b : Nat) : List Knd → Prop
  | [] => True
  | k :: ks => (match oldG k with | some g => b ≠ g | none => True) ∧ NotOld b ks
theorem NotOld.get {b : Nat} : ∀ {ks : List Knd}, NotOld b ks → ∀ k ∈ ks, oldG k ≠ some b
  | k0 :: _, h, k, hk, e => by
    rcases List.mem_cons.1 hk with rfl | hk
    · have := h.1
      rw [e] at this
      exact this rfl
    · exact NotOld.get h.2 k hk e
theorem Since.at {wb w : World} {ks : List Knd} (h : Since wb ks w) {b : Nat} {o : Obj} (hb : wb.heap[b]? = some o) (hn : NotOld b ks) : w.heap[b]? = some o :=
  (h.rest b (Array.getElem?_eq_some_iff.1 hb).1 hn.get).trans hb
/-- The older variables that are stored into are no rows of limbs. -/
def OldTyped (wb : World) (U : TypeId) : List Knd → Prop
  | [] => True
  | k :: ks => (match oldG k with | some g => ∃ cs E, wb.heap[g]? = some (.cells cs E (0, 0)) ∧ E ≠ U | none => True) ∧ OldTyped wb U ks
theorem OldTyped.get {wb : World} {U : TypeId} : ∀ {ks : List Knd}, OldTyped wb U ks → ∀ k ∈ ks, ∀ g, oldG k = some g → ∃ cs E, wb.heap[g]? = some (.cells cs E (0, 0)) ∧ E ≠ U
  | k0 :: _, h, k, hk, g, e => by
    rcases List.mem_cons.1 hk with rfl | hk
    · have := h.1
      rw [e] at this
      exact this
    · exact OldTyped.get h.2 k hk g e

def Moves (ks : List Knd) (i : Nat) (x : Nat → Got) (w w' : World) : Prop := match ks[i]? with | some (.inr (.inr (.inl (bx, _, _, _)))) => Turn (x bx).lo w w' | some (.inr (.inr (.inr (g, _, _, _)))) => Turn g w w' | _ => Up w w'

/-- Operation o is carried out. -/
def kgoal (P : Program) (l : List Oper) (o : Oper) (A : Act) (w : World) (K : Value → List Deferred → World → Prop) (d : List Deferred) : Prop :=
  match o.guard with
  | none => Oper.wp P o A w (fun a' w' => K (gotOf o a') a'.defers w') (fun _ _ _ => False)
  | some _ => if Region.wanted o (yielded l.toArray A.tmps) = true then Oper.wp P o A w (fun a' w' => K (gotOf o a') a'.defers w') (fun _ _ _ => False) else K undef d w
theorem kgoal_if {P : Program} {l : List Oper} {o : Oper} {A : Act} {w : World} {K : Value → List Deferred → World → Prop} {d : List Deferred} (h : kgoal P l o A w K d) :
    if Region.wanted o (yielded l.toArray A.tmps) = true then Oper.wp P o A w (fun a' w' => K (gotOf o a') a'.defers w') (fun _ _ _ => False) else K undef d w := by
  unfold kgoal at h
  cases hg : o.guard with
  | none =>
    rw [hg] at h
    rw [if_pos (by unfold Region.wanted; rw [hg])]
    exact h
  | some g =>
    rw [hg] at h
    exact h

/-- A goal that no tactic looks into till it is opened. -/
structure Veil (p : Prop) : Prop where
  out : p

def kstepAt (P : Program) (l : List Oper) (deps : List (List Nat)) (a0 : Act) (wf wb : World) (ks : List Knd) (i : Nat) (o : Oper) : Prop :=
  ∀ (x : Nat → Got) (w : World) (K : Value → List Deferred → World → Prop),
    Up wf w → Since wb ks w → (∀ (j : Nat) (k : Knd) (g : Nat), ks[j]? = some k → oldG k = some g → i = j ∨ i ∈ depsOf deps j → w.heap[g]? = wb.heap[g]?) →
    (∀ j, j ∈ depsOf deps i → kR wb ks j x w ∧ (x j).lo ≤ (x j).hi ∧ (x j).hi ≤ w.heap.size ∧ wb.heap.size ≤ (x j).lo) →
    (∀ v w', Moves ks i x w w' → kR wb ks i (setG x i ⟨v, w.heap.size, w'.heap.size⟩) w' → K v a0.defers w') →
    Veil (kgoal P l o (putsFrom (fun k => (depsOf deps i).contains k) 0 l x a0) w K a0.defers)

def kstepsFrom (P : Program) (l : List Oper) (deps : List (List Nat)) (a0 : Act) (wf wb : World) (ks : List Knd) : Nat → List Oper → Prop
  | _, [] => True
  | k, o :: rest => kstepAt P l deps a0 wf wb ks k o ∧ kstepsFrom P l deps a0 wf wb ks (k + 1) rest

/-- All that is known of operation j. -/
def kRR (wb : World) (ks : List Knd) (j : Nat) (x : Nat → Got) (w : World) : Prop := wb.heap.size ≤ (x j).lo ∧ kR wb ks j x w

theorem kR_loc {wb : World} {ks : List Knd} {deps : List (List Nat)} (hk : kndB ks deps = true) : ∀ j x x' w, (∀ k, k = j ∨ k ∈ depsOf deps j → x k = x' k) → kRR wb ks j x w → kRR wb ks j x' w := by
  intro j x x' w h hr
  refine ⟨by rw [← h j (.inl rfl)]; exact hr.1, ?_⟩
  replace hr := hr.2
  unfold kR at *
  cases e : ks[j]? with
  | none => trivial
  | some k =>
    rw [e] at hr
    rcases k with ⟨ds, p⟩ | ⟨E, n⟩ | ⟨bx, src, E, n⟩ | ⟨g, src, E, n⟩
    · have hd := kndB_val hk e
      simp only [Knd.holds] at hr ⊢
      rw [← h j (.inl rfl), show (ds.map fun i => (x' i).v) = ds.map fun i => (x i).v from List.map_congr_left fun i hi => by rw [h i (.inr (hd i hi))]]
      exact hr
    · simp only [Knd.holds] at hr ⊢
      rw [← h j (.inl rfl)]
      exact hr
    · obtain ⟨h1, h2, -⟩ := kndB_sto hk e
      simp only [Knd.holds] at hr ⊢
      rw [← h bx (.inr h1), ← h src (.inr h2)]
      exact hr
    · have h2 := kndB_old hk e
      simp only [Knd.holds] at hr ⊢
      rw [← h src (.inr h2)]
      exact hr

/-- What is known of the older variables that are not stored into yet. -/
def kN (wb : World) (ks : List Knd) (j : Nat) (w : World) : Prop := ∀ (k : Knd) (g : Nat), ks[j]? = some k → oldG k = some g → w.heap[g]? = wb.heap[g]?

theorem kstep_step {P : Program} {l : List Oper} {deps : List (List Nat)} {a0 : Act} {wf wb : World} {ks : List Knd} (hk : kndB ks deps = true) (hst : AllStable ks) (huf : Up wf wb) (hold : OldsIn wf.heap.size wb.heap.size ks) (hlen : ks.length ≤ l.length) {i : Nat} {o : Oper} (h : kstepAt P l deps a0 wf wb ks i o) :
    stepAt P l deps a0 (Since wb ks) (kN wb ks) (kRR wb ks) i o := by
  intro x w L K hG hd hR hlo hdis hshut hni hN hK
  have inl : ∀ (j : Nat) (k : Knd), ks[j]? = some k → j < l.length := fun j k e => Nat.lt_of_lt_of_le (List.getElem?_eq_some_iff.1 e).1 hlen
  refine kgoal_if (Veil.out (h x w K (hG.up huf hold) hG (fun j k g e eg hor => hN j (inl j k e) ?_ k g e eg) (fun j hj => ⟨(hR j (hd j hj)).2, (hlo j (hd j hj)).1, (hlo j (hd j hj)).2, (hR j (hd j hj)).1⟩) (fun v w' hm hr => ?_)))
  · rcases hor with rfl | hor
    · exact hni
    · exact fun hl => hni (hshut j i hl hor)
  -- other operations' facts
  have box : ∀ (j : Nat) (E : TypeId) (n : Nat), ks[j]? = some (Knd.box E n) → L j → (x j).lo < (x j).hi ∧ wb.heap.size ≤ (x j).lo := fun j E n e hj => by
    have := (hR j hj).2
    unfold kR at this
    rw [e] at this
    exact ⟨this.2.1, this.2.2.1⟩
  have far : ∀ (w' : World) (j : Nat), (∀ b, (x j).lo ≤ b → b < (x j).hi → w'.heap[b]? = w.heap[b]?) → (∀ bx src E n, ks[j]? = some (Knd.sto bx src E n) → w'.heap[(x bx).lo]? = w.heap[(x bx).lo]?) → (∀ g src E n, ks[j]? = some (Knd.old g src E n) → w'.heap[g]? = w.heap[g]?) → L j → kRR wb ks j x w' := fun w' j h1 h2 h3 hj => by
    have h0 := (hR j hj).2
    refine ⟨(hR j hj).1, ?_⟩
    unfold kR at h0 ⊢
    cases e : ks[j]? with
    | none => trivial
    | some k =>
      rw [e] at h0
      rcases k with ⟨ds, p⟩ | ⟨E, n⟩ | ⟨bx, src, E, n⟩ | ⟨g, src, E, n⟩
      · exact hst.get j _ e w w' _ _ h1 h0
      · obtain ⟨a1, a2, a3, cs, a4, a5⟩ := h0
        exact ⟨a1, a2, a3, cs, a4, (h1 _ (Nat.le_refl _) a2).trans a5⟩
      · obtain ⟨cs, a0, a1, a2⟩ := h0
        exact ⟨cs, a0, a1, (h2 bx src E n e).trans a2⟩
      · obtain ⟨cs, a0, a1, a2⟩ := h0
        exact ⟨cs, a0, a1, (h3 g src E n e).trans a2⟩
  have hsz : wb.heap.size ≤ w.heap.size := hG.size
  have hri : kRR wb ks i (setG x i ⟨v, w.heap.size, w'.heap.size⟩) w' := ⟨by rw [setG_same]; exact hsz, hr⟩
  unfold Moves at hm
  by_cases hs : ∃ bx src E n, ks[i]? = some (Knd.sto bx src E n)
  · obtain ⟨bx, src, E, n, e⟩ := hs
    rw [e] at hm
    replace hm : Turn (x bx).lo w w' := hm
    obtain ⟨hbx, hsrc, eb, huniq⟩ := kndB_sto hk e
    have lb := hd bx hbx
    obtain ⟨b1, b2⟩ := box bx E n eb lb
    have hG' : Since wb ks w' := ⟨hm.os.trans hG.os, hm.tape.trans hG.tape, hm.output.trans hG.output, by rw [hm.size]; exact hsz, fun b hb hn => (hm.block b (by omega)).trans (hG.rest b hb hn)⟩
    refine hK v w' hG' (by rw [hm.size]; exact Nat.le_refl _) hri (fun j hji hj => ?_) (fun j hj hji hnl k g ek eg => (hm.block g (by have := (hold.get j k g ek eg).2; omega)).trans (hN j hj hnl k g ek eg))
    by_cases ejb : j = bx
    · -- the variable itself
      subst ejb
      have h0 := (hR j hj).2
      refine ⟨(hR j hj).1, ?_⟩
      unfold kR at h0 ⊢
      rw [eb] at h0 ⊢
      obtain ⟨a1, a2, a3, cs, a4, a5⟩ := h0
      have hr' := hr
      unfold kR at hr'
      rw [e] at hr'
      obtain ⟨cs', c0, c1, c2⟩ := hr'
      have hjne : j ≠ i := hji
      rw [setG_other hjne] at c2
      exact ⟨a1, a2, a3, cs', c0, c2⟩
    · refine far w' j (fun b h1 h2 => hm.block b ?_) (fun bx' src' E' n' e' => hm.block _ ?_) (fun g src' E' n' e' => hm.block _ ?_) hj
      · have := hdis j bx hj lb ejb
        omega
      · obtain ⟨hbx', -, eb', -⟩ := kndB_sto hk e'
        have hne : bx' ≠ bx := fun eq => hji (huniq j src' n' E' (by rw [← eq]; exact e'))
        have lb' := hshut j bx' hj hbx'
        have := hdis bx' bx lb' lb hne
        have := (box bx' E' n' eb' lb').1
        omega
      · have := (hold.get j _ g e' rfl).2
        omega
  · by_cases ho : ∃ g src E n, ks[i]? = some (Knd.old g src E n)
    · obtain ⟨g, src, E, n, e⟩ := ho
      rw [e] at hm
      replace hm : Turn g w w' := hm
      obtain ⟨g1, g2⟩ := hold.get i _ g e rfl
      have hG' : Since wb ks w' := ⟨hm.os.trans hG.os, hm.tape.trans hG.tape, hm.output.trans hG.output, by rw [hm.size]; exact hsz, fun b hb hn => (hm.block b (fun eq => hn _ (List.mem_of_getElem? e) (by rw [eq]; rfl))).trans (hG.rest b hb hn)⟩
      refine hK v w' hG' (by rw [hm.size]; exact Nat.le_refl _) hri (fun j hji hj => ?_) (fun j hj hji hnl k g' ek eg => (hm.block g' (fun eq => hji (hold.uniq j i k _ g ek e (by rw [← eq]; exact eg) rfl))).trans (hN j hj hnl k g' ek eg))
      refine far w' j (fun b h1 h2 => hm.block b ?_) (fun bx' src' E' n' e' => hm.block _ ?_) (fun g' src' E' n' e' => hm.block _ ?_) hj
      · have := (hR j hj).1
        omega
      · obtain ⟨hbx', -, eb', -⟩ := kndB_sto hk e'
        have := (box bx' E' n' eb' (hshut j bx' hj hbx')).2
        omega
      · exact fun eq => hji (hold.uniq j i _ _ g e' e (by rw [← eq]; rfl) rfl)
    · have hm' : Up w w' := by
        cases e : ks[i]? with
        | none => rw [e] at hm; exact hm
        | some k =>
          rw [e] at hm
          rcases k with ⟨ds, p⟩ | ⟨E, n⟩ | ⟨a, b, c, d⟩ | ⟨a, b, c, d⟩
          · exact hm
          · exact hm
          · exact absurd ⟨a, b, c, d, e⟩ hs
          · exact absurd ⟨a, b, c, d, e⟩ ho
      have hG' : Since wb ks w' := ⟨(Below.os hm').trans hG.os, (Below.tape hm').trans hG.tape, (Below.output hm').trans hG.output, Nat.le_trans hsz (Below.size hm'), fun b hb hn => (Below.block hm' b (by omega)).trans (hG.rest b hb hn)⟩
      refine hK v w' hG' (Below.size hm') hri (fun j hji hj => far w' j (fun b h1 h2 => Below.block hm' b ?_) (fun bx src E n e => Below.block hm' _ ?_) (fun g src E n e => Below.block hm' _ ?_) hj)
        (fun j hj hji hnl k g ek eg => (Below.block hm' g (by have := (hold.get j k g ek eg).2; omega)).trans (hN j hj hnl k g ek eg))
      · have := (hlo j hj).2
        omega
      · obtain ⟨hbx, -, eb, -⟩ := kndB_sto hk e
        have lb := hshut j bx hj hbx
        have h1 := (box bx E n eb lb).1
        have := (hlo bx lb).2
        omega
      · have := (hold.get j _ g e rfl).2
        omega

theorem ksteps_steps {P : Program} {l : List Oper} {deps : List (List Nat)} {a0 : Act} {wf wb : World} {ks : List Knd} (hk : kndB ks deps = true) (hst : AllStable ks) (huf : Up wf wb) (hold : OldsIn wf.heap.size wb.heap.size ks) (hlen : ks.length ≤ l.length) : ∀ (r : List Oper) (k : Nat), kstepsFrom P l deps a0 wf wb ks k r → stepsFrom P l deps a0 (Since wb ks) (kN wb ks) (kRR wb ks) k r
  | [], _, _ => trivial
  | _ :: r, k, h => ⟨kstep_step hk hst huf hold hlen h.1, ksteps_steps hk hst huf hold hlen r (k + 1) h.2⟩

/-- **A region that draws its order: what each operation gives.** -/
theorem wp_region_knd {P : Program} {l : List Oper} {a0 : Act} {Q : Exit → Act → World → Prop} {id : Nat} {w : World} (hm : P.follows .mixedOrders = true) (wf : World) (huf : Up wf w) (deps : List (List Nat)) (ks : List Knd) (hB : relB l deps a0.tmps.size = true) (hk : kndB ks deps = true) (hlen : ks.length = l.length)
    (hold : OldsIn wf.heap.size w.heap.size ks) (hst : AllStable ks) (hs : kstepsFrom P l deps a0 wf w.drew ks 0 l)
    (hend : ∀ (x : Nat → Got) (w' : World), Up wf w' → Since w.drew ks w' → (∀ j, j < l.length → kR w.drew ks j x w') → (∀ j, j < l.length → w.heap.size ≤ (x j).lo ∧ (x j).lo ≤ (x j).hi ∧ (x j).hi ≤ w'.heap.size) → (∀ j k, j < l.length → k < l.length → j ≠ k → (x j).hi ≤ (x k).lo ∨ (x k).hi ≤ (x j).lo) → Veil (Q .normal (putsFrom (fun _ => true) 0 l x a0) w')) :
    (Code.region id l.toArray true).wp P Q a0 w :=
  have huf' : Up wf w.drew := huf.tr (up_drew w)
  wp_region_rel hm deps (Since w.drew ks) (kN w.drew ks) (kRR w.drew ks) hB (kR_loc hk) ⟨rfl, rfl, rfl, Nat.le_refl _, fun _ _ _ => rfl⟩ (fun _ _ _ _ _ _ => rfl) (ksteps_steps hk hst huf' hold (Nat.le_of_eq hlen) l 0 hs)
    (fun x w' hG hR hlo hdis => Veil.out <| hend x w' (hG.up huf' hold) hG (fun j hj => (hR j hj).2) (fun j hj => ⟨(hR j hj).1, (hlo j hj).1, (hlo j hj).2⟩) hdis)

/-- A variable that was just laid. -/
theorem box_new {wb w1 : World} {x : Nat → Got} {i n : Nat} {E : TypeId} {cs : Array Value} {ks : List Knd} (hn : cs.size = n) (u : Since wb ks w1) :
    Knd.holds wb (Knd.box E n) i (setG x i ⟨.pointer (some ⟨w1.heap.size, 0, none⟩), w1.heap.size, (w1.alloc (.cells cs E)).heap.size⟩) (w1.alloc (.cells cs E)) := by
  simp only [Knd.holds, setG_same]
  exact ⟨trivial, by simp, u.size, cs, hn, heap_alloc_new w1 _⟩
theorem two_cells {cs : Array Value} (h : cs.size = 2) : ∃ c0 c1, cs = #[c0, c1] := by
  obtain ⟨l⟩ := cs
  match l, h with
  | [c0, c1], _ => exact ⟨c0, c1, rfl⟩
theorem box_two {wb w1 : World} {x : Nat → Got} {i : Nat} {E : TypeId} (h : Knd.holds wb (Knd.box E 2) i x w1) :
    ∃ c0 c1, (x i).v = .pointer (some ⟨(x i).lo, 0, none⟩) ∧ w1.heap[(x i).lo]? = some (.cells #[c0, c1] E (0, 0)) := by
  obtain ⟨h1, h2, h3, cs, h4, h5⟩ := h
  obtain ⟨c0, c1, rfl⟩ := two_cells h4
  exact ⟨c0, c1, h1, h5⟩
theorem kR_some {wb w : World} {x : Nat → Got} {ks : List Knd} {j : Nat} {k : Knd} (h : kR wb ks j x w) (e : ks[j]? = some k) : Knd.holds wb k j x w := by
  unfold kR at h
  rw [e] at h
  exact h
theorem kval {wb w : World} {x : Nat → Got} {ks : List Knd} {j : Nat} {ds : List Nat} {p : World → Got → List Value → Prop} (h : kR wb ks j x w) (e : ks[j]? = some (Knd.val ds p)) : p w (x j) (ds.map fun i => (x i).v) := kR_some h e
theorem ksto {wb w : World} {x : Nat → Got} {ks : List Knd} {j bx src n : Nat} {E : TypeId} (h : kR wb ks j x w) (e : ks[j]? = some (Knd.sto bx src E n)) : ∃ cs : Array Value, cs.size = n ∧ (x src).v = .agg cs ∧ w.heap[(x bx).lo]? = some (.cells cs E (0, 0)) := kR_some h e
theorem kold {wb w : World} {x : Nat → Got} {ks : List Knd} {j g src n : Nat} {E : TypeId} (h : kR wb ks j x w) (e : ks[j]? = some (Knd.old g src E n)) : ∃ cs : Array Value, cs.size = n ∧ (x src).v = .agg cs ∧ w.heap[g]? = some (.cells cs E (0, 0)) := kR_some h e
theorem kbox {wb w : World} {x : Nat → Got} {ks : List Knd} {j n : Nat} {E : TypeId} (h : kR wb ks j x w) (e : ks[j]? = some (Knd.box E n)) : (x j).v = .pointer (some ⟨(x j).lo, 0, none⟩) ∧ (x j).lo < (x j).hi := ⟨(kR_some h e).1, (kR_some h e).2.1⟩
theorem kbox2 {wb w : World} {x : Nat → Got} {ks : List Knd} {j : Nat} {E : TypeId} (h : kR wb ks j x w) (e : ks[j]? = some (Knd.box E 2)) : ∃ c0 c1, (x j).v = .pointer (some ⟨(x j).lo, 0, none⟩) ∧ w.heap[(x j).lo]? = some (.cells #[c0, c1] E (0, 0)) := box_two (kR_some h e)
/-- Two cells of a variable are set. -/
theorem sto_two {w1 : World} {g : Nat} {c0 c1 : Value} {E : TypeId} (h : w1.heap[g]? = some (.cells #[c0, c1] E (0, 0))) (v0 v1 : Value) :
    Turn g w1 ((w1.setCell ⟨g, 0, none⟩ v0).setCell ⟨g, 1, none⟩ v1) ∧ ((w1.setCell ⟨g, 0, none⟩ v0).setCell ⟨g, 1, none⟩ v1).heap[g]? = some (.cells #[v0, v1] E (0, 0)) := by
  refine ⟨(turn_setCell _ _ _ _).trans (turn_setCell _ _ _ _), ?_⟩
  have h1 := heap_setCell_same w1 g 0 _ E v0 h
  exact heap_setCell_same (w1.setCell ⟨g, 0, none⟩ v0) g 1 _ E v1 h1

end Go.Proofs.YtkmpobmpencefaaDoor
