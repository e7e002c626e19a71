/-
  What is proved here: a region that draws its order of evaluation, by one relation: what each operation gives, said of its value and of the world, as long as no other operation of the region turns it. a region that draws its order of evaluation, whose operations lay new variables, store into these or into older ones once, and else only lay memory: by what each operation gives.
-/
import Derived.Orders
import Derived.Laws.World
import Derived.Test.YtilcigjhogcjkaaPKSp0
namespace Go.Proofs.Ytilcigjhogcjkaa
open Go Go.RowKit

/-- What an operation gave: its value, and the blocks that were laid while it ran: from lo on, below hi. -/
structure Got where
  v : Value
  lo : Nat
  hi : Nat
def setG (x : Nat → Got) (i : Nat) (g : Got) : Nat → Got := fun j => if j = i then g else x j
theorem setG_same (x : Nat → Got) (i : Nat) (g : Got) : setG x i g i = g := by simp [setG]
theorem setG_other {x : Nat → Got} {i j : Nat} {g : Got} (h : j ≠ i) : setG x i g j = x j := by simp [setG, h]

/-- The frame with what the operations that are named gave. -/
def putsFrom (p : Nat → Bool) : Nat → List Oper → (Nat → Got) → Act → Act
  | _, [], _, a => a
  | k, o :: rest, x, a => putsFrom p (k + 1) rest x (if p k = true then a.put o.dst (x k).v else a)

def depsOf (deps : List (List Nat)) (i : Nat) : List Nat := deps.getD i []

def relB (l : List Oper) (deps : List (List Nat)) (sz : Nat) : Bool :=
  (List.range l.length).all fun i =>
    match l[i]? with
    | none => true
    | some o =>
      (match o.dst with
       | none => true
       | some d => decide (d < sz) && (List.range l.length).all fun j => j == i || (match l[j]? with | some o' => o'.dst != some d | none => true)) &&
      ((o.looksAt l.toArray).all (fun t => (List.range l.length).all fun j => (match l[j]? with | some o' => o'.dst != some t | none => true) || (depsOf deps i).contains j || (j != i && (depsOf deps j).contains i) || j == i) &&
      ((depsOf deps i).all (fun j => o.after.any fun e => Region.binds .any e && (e.on == j || (depsOf deps e.on).contains j)) &&
      (o.after.all (fun e => !Region.binds .any e || decide (e.on < i)) &&
      (match o.op with | .select .. => false | _ => true))))

structure RelOk (l : List Oper) (deps : List (List Nat)) (sz : Nat) : Prop where
  inB : ∀ (i : Nat) (o : Oper) (d : Tmp), l[i]? = some o → o.dst = some d → d < sz
  apart : ∀ (i j : Nat) (o o' : Oper) (d : Tmp), l[i]? = some o → l[j]? = some o' → o.dst = some d → o'.dst = some d → j = i
  looks : ∀ (i : Nat) (o : Oper) (t : Tmp) (j : Nat) (o' : Oper), l[i]? = some o → t ∈ o.looksAt l.toArray → l[j]? = some o' → o'.dst = some t → j ∈ depsOf deps i ∨ i ∈ depsOf deps j ∨ j = i
  waits : ∀ (i : Nat) (o : Oper) (j : Nat), l[i]? = some o → j ∈ depsOf deps i → ∃ e ∈ o.after, Region.binds .any e = true ∧ (e.on = j ∨ j ∈ depsOf deps e.on)
  back : ∀ (i : Nat) (o : Oper) (e : Edge), l[i]? = some o → e ∈ o.after → Region.binds .any e = true → e.on < i
  plain : ∀ (i : Nat) (o : Oper) (cs : Array SelectCase) (b : Bool), l[i]? = some o → o.op ≠ .select cs b

theorem relOk {l : List Oper} {deps : List (List Nat)} {sz : Nat} (h : relB l deps sz = true) : RelOk l deps sz := by
  have H : ∀ (i : Nat) (o : Oper), l[i]? = some o → _ := fun i o ho => (List.all_eq_true.1 h) i (List.mem_range.2 (List.getElem?_eq_some_iff.1 ho).1)
  have lt : ∀ (j : Nat) (o : Oper), l[j]? = some o → j ∈ List.range l.length := fun j o ho => List.mem_range.2 (List.getElem?_eq_some_iff.1 ho).1
  constructor
  · intro i o d ho hd
    have := H i o ho
    simp only [ho, hd, Bool.and_eq_true, decide_eq_true_eq] at this
    exact this.1.1
  · intro i j o o' d ho ho' hd hd'
    have := H i o ho
    simp only [ho, hd, Bool.and_eq_true] at this
    have h2 := (List.all_eq_true.1 this.1.2) j (lt j o' ho')
    simp only [ho', hd', bne_self_eq_false, Bool.or_false, beq_iff_eq] at h2
    exact h2
  · intro i o t j o' ho ht ho' hd'
    have := H i o ho
    simp only [ho, Bool.and_eq_true] at this
    have h2 := (List.all_eq_true.1 ((List.all_eq_true.1 this.2.1) t ht)) j (lt j o' ho')
    simp only [ho', hd', bne_self_eq_false, Bool.false_or, Bool.or_eq_true, Bool.and_eq_true, List.contains_iff_mem, beq_iff_eq] at h2
    rcases h2 with (h2 | h2) | h2
    · exact .inl h2
    · exact .inr (.inl h2.2)
    · exact .inr (.inr h2)
  · intro i o j ho hj
    have := H i o ho
    simp only [ho, Bool.and_eq_true] at this
    have h2 := (List.all_eq_true.1 this.2.2.1) j hj
    obtain ⟨e, he, hb⟩ := Array.any_eq_true'.1 h2
    simp only [Bool.and_eq_true, Bool.or_eq_true, beq_iff_eq, List.contains_iff_mem] at hb
    exact ⟨e, he, hb.1, hb.2⟩
  · intro i o e ho he hb
    have := H i o ho
    simp only [ho, Bool.and_eq_true] at this
    have h2 := (Array.all_eq_true_iff_forall_mem.1 this.2.2.2.1) e he
    simp only [hb, Bool.not_true, Bool.false_or, decide_eq_true_eq] at h2
    exact h2
  · intro i o cs b ho e
    have := H i o ho
    simp only [ho, Bool.and_eq_true] at this
    have h2 := this.2.2.2.2
    rw [e] at h2
    cases h2

def gotOf (o : Oper) (a : Act) : Value := match o.dst with | some d => a.tmps.getD d undef | none => undef

/-- What is asked of operation number i. -/
def stepAt (P : Program) (l : List Oper) (deps : List (List Nat)) (a0 : Act) (G : World → Prop) (N : Nat → World → Prop) (R : Nat → (Nat → Got) → World → Prop) (i : Nat) (o : Oper) : Prop :=
  ∀ (x : Nat → Got) (w : World) (L : Nat → Prop) (K : Value → List Deferred → World → Prop),
    G w → (∀ j, j ∈ depsOf deps i → L j) → (∀ j, L j → R j x w) → (∀ j, L j → (x j).lo ≤ (x j).hi ∧ (x j).hi ≤ w.heap.size) →
    (∀ j k, L j → L k → j ≠ k → (x j).hi ≤ (x k).lo ∨ (x k).hi ≤ (x j).lo) →
    (∀ j k, L j → k ∈ depsOf deps j → L k) → ¬ L i → (∀ j, j < l.length → ¬ L j → N j w) →
    (∀ v w', G w' → w.heap.size ≤ w'.heap.size → R i (setG x i ⟨v, w.heap.size, w'.heap.size⟩) w' → (∀ j, j ≠ i → L j → R j x w') → (∀ j, j < l.length → j ≠ i → ¬ L j → N j w') → K v a0.defers w') →
    if Region.wanted o (yielded l.toArray (putsFrom (fun k => (depsOf deps i).contains k) 0 l x a0).tmps) = true then Oper.wp P o (putsFrom (fun k => (depsOf deps i).contains k) 0 l x a0) w (fun a' w' => K (gotOf o a') a'.defers w') (fun _ _ _ => False) else K undef a0.defers w

def stepsFrom (P : Program) (l : List Oper) (deps : List (List Nat)) (a0 : Act) (G : World → Prop) (N : Nat → World → Prop) (R : Nat → (Nat → Got) → World → Prop) : Nat → List Oper → Prop
  | _, [] => True
  | k, o :: rest => stepAt P l deps a0 G N R k o ∧ stepsFrom P l deps a0 G N R (k + 1) rest

theorem stepsFrom_get {P : Program} {l : List Oper} {deps : List (List Nat)} {a0 : Act} {G : World → Prop} {N : Nat → World → Prop} {R : Nat → (Nat → Got) → World → Prop} : ∀ (r : List Oper) (k : Nat), stepsFrom P l deps a0 G N R k r → ∀ (i : Nat) (o : Oper), r[i]? = some o → stepAt P l deps a0 G N R (k + i) o
  | [], _, _, _, _, h => by cases h
  | o :: r, k, hs, 0, o', h => by cases h; exact hs.1
  | o :: r, k, hs, i + 1, o', h => by
    have := stepsFrom_get r (k + 1) hs.2 i o' (by simpa using h)
    rwa [show k + 1 + i = k + (i + 1) by omega] at this

/-- What the frame with these values reads. -/
theorem putsFrom_spec (p : Nat → Bool) : ∀ (r : List Oper) (k : Nat) (x : Nat → Got) (a : Act), (∀ (i j : Nat) (o o' : Oper) (d : Tmp), r[i]? = some o → r[j]? = some o' → o.dst = some d → o'.dst = some d → j = i) → (∀ (i : Nat) (o : Oper) (d : Tmp), r[i]? = some o → o.dst = some d → d < a.tmps.size) →
    (putsFrom p k r x a).defers = a.defers ∧ (putsFrom p k r x a).tmps.size = a.tmps.size ∧
    (∀ (j : Nat) (o : Oper) (d : Tmp), r[j]? = some o → p (k + j) = true → o.dst = some d → (putsFrom p k r x a).tmps[d]? = some (x (k + j)).v) ∧
    ∀ t, (∀ (j : Nat) (o : Oper), r[j]? = some o → p (k + j) = true → o.dst ≠ some t) → (putsFrom p k r x a).tmps[t]? = a.tmps[t]?
  | [], k, x, a, _, _ => ⟨rfl, rfl, (fun j o d h => by simp at h), fun t _ => rfl⟩
  | o :: r, k, x, a, hap, hin => by
    have psz : ∀ v, (a.put o.dst v).tmps.size = a.tmps.size := fun v => by cases h : o.dst <;> simp [Act.put]
    have pde : ∀ v, (a.put o.dst v).defers = a.defers := fun v => by cases h : o.dst <;> simp [Act.put]
    have hap' : ∀ (i j : Nat) (o o' : Oper) (d : Tmp), r[i]? = some o → r[j]? = some o' → o.dst = some d → o'.dst = some d → j = i := fun i j o o' d hi hj hd hd' => by have := hap (i + 1) (j + 1) o o' d (by simpa using hi) (by simpa using hj) hd hd'; omega
    by_cases hp : p k = true
    · obtain ⟨h1, h2, h3, h4⟩ := putsFrom_spec p r (k + 1) x (a.put o.dst (x k).v) hap'
        (fun i o' d hi hd => by rw [psz]; exact hin (i + 1) o' d (by simpa using hi) hd)
      have e : putsFrom p k (o :: r) x a = putsFrom p (k + 1) r x (a.put o.dst (x k).v) := by show putsFrom p (k + 1) r x (if p k = true then _ else _) = _; rw [if_pos hp]
      rw [e]
      refine ⟨h1.trans (pde _), h2.trans (psz _), fun j o' d hj hpj hd => ?_, fun t ht => ?_⟩
      · cases j with
        | zero =>
          cases hj
          rw [h4 d (fun j o'' hj _ hd' => by have := hap 0 (j + 1) o o'' d rfl (by simpa using hj) hd hd'; omega)]
          have := hin 0 o d rfl hd
          simp only [hd, Act.put]
          rw [Array.getElem?_setIfInBounds_self_of_lt this]
          rfl
        | succ j =>
          have := h3 j o' d (by simpa using hj) (by rw [show k + 1 + j = k + (j + 1) by omega]; exact hpj) hd
          rw [show k + (j + 1) = k + 1 + j by omega]
          exact this
      · rw [h4 t (fun j o'' hj hpj => ht (j + 1) o'' (by simpa using hj) (by rw [show k + (j + 1) = k + 1 + j by omega]; exact hpj))]
        have := ht 0 o rfl hp
        cases hd : o.dst with
        | none => rfl
        | some d =>
          simp only [Act.put]
          exact Array.getElem?_setIfInBounds_ne (fun e => this (by rw [hd, e]))
    · obtain ⟨h1, h2, h3, h4⟩ := putsFrom_spec p r (k + 1) x a hap' (fun i o' d hi hd => hin (i + 1) o' d (by simpa using hi) hd)
      have e : putsFrom p k (o :: r) x a = putsFrom p (k + 1) r x a := by show putsFrom p (k + 1) r x (if p k = true then _ else _) = _; rw [if_neg hp]
      rw [e]
      refine ⟨h1, h2, fun j o' d hj hpj hd => ?_, fun t ht => ?_⟩
      · cases j with
        | zero => exact absurd hpj hp
        | succ j =>
          have := h3 j o' d (by simpa using hj) (by rw [show k + 1 + j = k + (j + 1) by omega]; exact hpj) hd
          rw [show k + (j + 1) = k + 1 + j by omega]
          exact this
      · exact h4 t (fun j o'' hj hpj => ht (j + 1) o'' (by simpa using hj) (by rw [show k + (j + 1) = k + 1 + j by omega]; exact hpj))

section
variable {P : Program} {l : List Oper} {deps : List (List Nat)} {a0 : Act} {G : World → Prop} {N : Nat → World → Prop} {R : Nat → (Nat → Got) → World → Prop} {Q : Exit → Act → World → Prop}

/-- What holds while the region runs. -/
structure Held (l : List Oper) (deps : List (List Nat)) (a0 : Act) (G : World → Prop) (N : Nat → World → Prop) (R : Nat → (Nat → Got) → World → Prop) (listed : Array Bool) (x : Nat → Got) (a : Act) (w : World) : Prop where
  size : listed.size = l.length
  g : G w
  nn : ∀ j, j < l.length → ¬ listed.getD j false = true → N j w
  r : ∀ j, listed.getD j false = true → R j x w
  lo : ∀ j, listed.getD j false = true → (x j).lo ≤ (x j).hi ∧ (x j).hi ≤ w.heap.size
  dis : ∀ j k, listed.getD j false = true → listed.getD k false = true → j ≠ k → (x j).hi ≤ (x k).lo ∨ (x k).hi ≤ (x j).lo
  shut : ∀ j k, listed.getD j false = true → k ∈ depsOf deps j → listed.getD k false = true
  defers : a.defers = a0.defers
  tsize : a.tmps.size = a0.tmps.size
  has : ∀ (j : Nat) (o : Oper) (d : Tmp), l[j]? = some o → o.dst = some d → listed.getD j false = true → a.tmps[d]? = some (x j).v
  not : ∀ t, (∀ (j : Nat) (o : Oper), l[j]? = some o → listed.getD j false = true → o.dst ≠ some t) → a.tmps[t]? = a0.tmps[t]?

theorem upon_of {o : Oper} {a A : Act} {K : Value → List Deferred → World → Prop} {Nx : Act → World → Prop} {r : Result Next} (hsz : ∀ d, o.dst = some d → d < A.tmps.size)
    (hdf : ∀ v d w', K v d w' → d = A.defers)
    (hK : ∀ v w', K (match o.dst with | some _ => v | none => undef) A.defers w' → Nx (a.put o.dst v) w') (h : o.upon P A (fun a' w' => K (gotOf o a') a'.defers w') (fun _ _ _ => False) r) : o.upon P a Nx Q r := by
  have hg : ∀ v, gotOf o (A.put o.dst v) = (match o.dst with | some _ => v | none => undef) := fun v => by
    unfold gotOf
    cases e : o.dst with
    | none => rfl
    | some d => simp [Act.put, hsz d e]
  have hp : ∀ v, (A.put o.dst v).defers = A.defers := fun v => by cases e : o.dst <;> simp [Act.put]
  cases r with
  | ok n w' =>
    cases n <;> simp only [Oper.upon] at h ⊢
    case value v => exact hK _ _ (by rw [← hg v, ← hp v]; exact h)
    case skip => exact hK _ _ (by rw [← hg undef, ← hp undef]; exact h)
    case defer d =>
      have := hdf _ _ _ h
      exfalso
      have e2 : ∀ v, (({ A with defers := d :: A.defers } : Act).put o.dst v).defers = d :: A.defers := fun v => by cases e : o.dst <;> simp [Act.put]
      rw [e2] at this
      have := congrArg List.length this
      simp at this
    case enter f args =>
      refine Calls.mono h fun e w'' he => ?_
      cases e with
      | returned v => exact hK _ _ (by rw [← hg v, ← hp v]; exact he)
      | panicked c => exact he.elim
      | outgrown => obtain ⟨_, _, h⟩ := he; exact h.elim
    case row row args => exact Rows.mono h fun v w'' he => hK _ _ (by rw [← hg v, ← hp v]; exact he)
  | halt z w' => cases z <;> simp only [Oper.upon] at h ⊢

theorem getD_set_same {listed : Array Bool} {i : Nat} (h : i < listed.size) : (listed.setIfInBounds i true).getD i false = true := by
  simp [h]

/-- One operation. -/
theorem held_step (hB : RelOk l deps a0.tmps.size) (hloc : ∀ j x x' w, (∀ k, k = j ∨ k ∈ depsOf deps j → x k = x' k) → R j x w → R j x' w)
    {listed : Array Bool} {x : Nat → Got} {a : Act} {w : World} (h : Held l deps a0 G N R listed x a w) {i : Nat} {o : Oper} (ho : l[i]? = some o) (hun : listed.getD i true = false)
    (hrd : ∀ e ∈ o.after, Region.binds .any e = true → listed.getD e.on false = true) (hs : stepAt P l deps a0 G N R i o) :
    wpOp P l.toArray Q i (fun a' w' => ∃ x', Held l deps a0 G N R (listed.setIfInBounds i true) x' a' w') a w := by
  have hil : i < l.length := (List.getElem?_eq_some_iff.1 ho).1
  have hils : i < listed.size := by rw [h.size]; exact hil
  have hif : listed.getD i false = false := by
    simp only [Array.getD_eq_getD_getElem?, Array.getElem?_eq_getElem hils, Option.getD_some] at hun ⊢
    exact hun
  have hne : ∀ j, listed.getD j false = true → j ≠ i := fun j hj e => by rw [e, hif] at hj; cases hj
  have hdl : ∀ j, j ∈ depsOf deps i → listed.getD j false = true := fun j hj => by
    obtain ⟨e, he, hb, hor⟩ := hB.waits i o j ho hj
    rcases hor with rfl | hm
    · exact hrd e he hb
    · exact h.shut _ _ (hrd e he hb) hm
  obtain ⟨f1, f2, f3, f4⟩ := putsFrom_spec (fun k => (depsOf deps i).contains k) l 0 x a0 hB.apart hB.inB
  simp only [Nat.zero_add] at f3 f4
  have hev : ∀ t, t ∈ o.looksAt l.toArray → a.tmps[t]? = (putsFrom (fun k => (depsOf deps i).contains k) 0 l x a0).tmps[t]? := fun t ht => by
    by_cases hex : ∃ (j : Nat) (o' : Oper), l[j]? = some o' ∧ o'.dst = some t
    · obtain ⟨j, o', hj, hd⟩ := hex
      have huniq : ∀ (j' : Nat) (o'' : Oper), l[j']? = some o'' → o''.dst = some t → j' = j := fun j' o'' hj' hd' => hB.apart j j' o' o'' t hj hj' hd hd'
      by_cases hdep : j ∈ depsOf deps i
      · rw [f3 j o' t hj (List.contains_iff_mem.2 hdep) hd, h.has j o' t hj hd (hdl j hdep)]
      · have hnl : ¬ listed.getD j false = true := fun hl => by
          rcases hB.looks i o t j o' ho ht hj hd with h1 | h1 | h1
          · exact hdep h1
          · have := h.shut j i hl h1
            rw [hif] at this
            cases this
          · rw [h1, hif] at hl
            cases hl
        rw [f4 t (fun j' o'' hj' hp hd' => hdep (by rw [← huniq j' o'' hj' hd']; exact List.contains_iff_mem.1 hp)), h.not t (fun j' o'' hj' hl hd' => hnl (by rw [← huniq j' o'' hj' hd']; exact hl))]
    · rw [f4 t (fun j o' hj _ hd => hex ⟨j, o', hj, hd⟩), h.not t (fun j o' hj _ hd => hex ⟨j, o', hj, hd⟩)]
  have hexec : execOp a.eval o = execOp (putsFrom (fun k => (depsOf deps i).contains k) 0 l x a0).eval o := execOp_congr o (fun cs b => hB.plain i o cs b ho) fun y hy => by
    cases y with
    | tmp t =>
      have := hev t (List.mem_append_left _ (List.mem_filterMap.2 ⟨.tmp t, by simpa using hy, rfl⟩))
      simp only [Act.eval, Array.getD_eq_getD_getElem?, this]
    | _ => rfl
  have hwant : Region.wanted o (yielded l.toArray a.tmps) = Region.wanted o (yielded l.toArray (putsFrom (fun k => (depsOf deps i).contains k) 0 l x a0).tmps) := by
    unfold Region.wanted
    cases hg : o.guard with
    | none => rfl
    | some gw =>
      obtain ⟨g, want⟩ := gw
      have hy : yielded l.toArray a.tmps g = yielded l.toArray (putsFrom (fun k => (depsOf deps i).contains k) 0 l x a0).tmps g := by
        unfold yielded
        cases ht : (l.toArray[g]?).bind (·.dst) with
        | none => rfl
        | some t =>
          have := hev t (by unfold Oper.looksAt; rw [hg]; exact List.mem_append_right _ (by simp only [ht]; simp))
          simp only [Option.bind_some, this]
      simp only [hy]
  -- what follows
  have next : ∀ v w', G w' → w.heap.size ≤ w'.heap.size → R i (setG x i ⟨(match o.dst with | some _ => v | none => undef), w.heap.size, w'.heap.size⟩) w' → (∀ j, j ≠ i → listed.getD j false = true → R j x w') → (∀ j, j < l.length → j ≠ i → ¬ listed.getD j false = true → N j w') →
      ∃ x', Held l deps a0 G N R (listed.setIfInBounds i true) x' (a.put o.dst v) w' := by
    intro v w' hg hsz hri hst hnn
    have hcase : ∀ j, (listed.setIfInBounds i true).getD j false = true → j = i ∨ (j ≠ i ∧ listed.getD j false = true) := fun j hj => by
      by_cases e : j = i
      · exact .inl e
      · rw [getD_set_ne false (Ne.symm e)] at hj
        exact .inr ⟨e, hj⟩
    refine ⟨setG x i ⟨(match o.dst with | some _ => v | none => undef), w.heap.size, w'.heap.size⟩, ?_⟩
    refine { size := by simpa using h.size, g := hg, nn := fun j hj hnl => ?_, r := fun j hj => ?_, lo := fun j hj => ?_, dis := fun j k hj hk hjk => ?_, shut := fun j k hj hk => ?_, defers := ?_, tsize := ?_, has := fun j o' d hj hd hlj => ?_, not := fun t ht => ?_ }
    · by_cases e : j = i
      · exact absurd (by rw [e]; exact getD_set_same hils) hnl
      · rw [getD_set_ne false (Ne.symm e)] at hnl
        exact hnn j hj e hnl
    · rcases hcase j hj with rfl | ⟨e, hj⟩
      · exact hri
      · refine hloc j x _ w' (fun k hk => ?_) (hst j e hj)
        have : k ≠ i := by
          rcases hk with rfl | hk
          · exact e
          · exact hne k (h.shut j k hj hk)
        rw [setG_other this]
    · rcases hcase j hj with rfl | ⟨e, hj⟩
      · rw [setG_same]; exact ⟨hsz, Nat.le_refl _⟩
      · rw [setG_other e]; exact ⟨(h.lo j hj).1, Nat.le_trans (h.lo j hj).2 hsz⟩
    · rcases hcase j hj with rfl | ⟨e, hj⟩
      · rcases hcase k hk with rfl | ⟨e', hk⟩
        · exact absurd rfl hjk
        · rw [setG_same, setG_other e']; exact .inr (h.lo k hk).2
      · rcases hcase k hk with e2 | ⟨e', hk⟩
        · rw [e2, setG_same, setG_other e]; exact .inl (h.lo j hj).2
        · rw [setG_other e, setG_other e']; exact h.dis j k hj hk hjk
    · rcases hcase j hj with rfl | ⟨e, hj⟩
      · exact getD_set_true (hdl k hk)
      · exact getD_set_true (h.shut j k hj hk)
    · rw [← h.defers]; cases e : o.dst <;> simp [Act.put]
    · rw [← h.tsize]; cases e : o.dst <;> simp [Act.put]
    · rcases hcase j hlj with rfl | ⟨e, hlj⟩
      · rw [ho] at hj
        cases hj
        rw [setG_same]
        simp only [hd, Act.put]
        rw [Array.getElem?_setIfInBounds_self_of_lt (by rw [h.tsize]; exact hB.inB _ _ _ ho hd)]
      · rw [setG_other e, ← h.has j o' d hj hd hlj]
        cases hod : o.dst with
        | none => rfl
        | some d' =>
          simp only [Act.put]
          exact Array.getElem?_setIfInBounds_ne (fun e' => e (hB.apart i j o o' d ho hj (by rw [hod, e']) hd))
    · rw [← h.not t (fun j o' hj hlj => ht j o' hj (getD_set_true hlj))]
      have := ht i o ho (getD_set_same hils)
      cases hod : o.dst with
      | none => rfl
      | some d' =>
        simp only [Act.put]
        exact Array.getElem?_setIfInBounds_ne (fun e' => this (by rw [hod, e']))
  have hfd : (putsFrom (fun k => (depsOf deps i).contains k) 0 l x a0).defers = a0.defers := f1
  have H := hs x w (fun j => listed.getD j false = true) (fun v d w' => d = a0.defers ∧ G w' ∧ w.heap.size ≤ w'.heap.size ∧ R i (setG x i ⟨v, w.heap.size, w'.heap.size⟩) w' ∧ (∀ j, j ≠ i → listed.getD j false = true → R j x w') ∧ ∀ j, j < l.length → j ≠ i → ¬ listed.getD j false = true → N j w')
    h.g hdl h.r h.lo h.dis h.shut (by rw [hif]; simp) h.nn (fun v w' h1 h2 h3 h4 h5 => ⟨rfl, h1, h2, h3, h4, h5⟩)
  unfold wpOp
  simp only [List.getElem?_toArray, ho]
  rw [hwant]
  split
  · rename_i hw
    rw [if_pos hw] at H
    refine .inl ?_
    unfold Oper.wp at H ⊢
    rw [hexec]
    refine upon_of (K := fun v d w' => d = a0.defers ∧ G w' ∧ w.heap.size ≤ w'.heap.size ∧ R i (setG x i ⟨v, w.heap.size, w'.heap.size⟩) w' ∧ (∀ j, j ≠ i → listed.getD j false = true → R j x w') ∧ ∀ j, j < l.length → j ≠ i → ¬ listed.getD j false = true → N j w') (A := putsFrom (fun k => (depsOf deps i).contains k) 0 l x a0) (fun d hd => by rw [f2]; exact hB.inB i o d ho hd) (fun v d w' hk => by rw [hfd]; exact hk.1) (fun v w' hk => next v w' hk.2.1 hk.2.2.1 hk.2.2.2.1 hk.2.2.2.2.1 hk.2.2.2.2.2) H
  · rename_i hw
    rw [if_neg (by simpa using hw)] at H
    refine next undef w H.2.1 H.2.2.1 ?_ H.2.2.2.2.1 H.2.2.2.2.2
    have := H.2.2.2.1
    cases o.dst <;> exact this

theorem held_any (hB : RelOk l deps a0.tmps.size) (hloc : ∀ j x x' w, (∀ k, k = j ∨ k ∈ depsOf deps j → x k = x' k) → R j x w → R j x' w)
    (hs : stepsFrom P l deps a0 G N R 0 l)
    (hend : ∀ (x : Nat → Got) (w : World), G w → (∀ j, j < l.length → R j x w) → (∀ j, j < l.length → (x j).lo ≤ (x j).hi ∧ (x j).hi ≤ w.heap.size) → (∀ j k, j < l.length → k < l.length → j ≠ k → (x j).hi ≤ (x k).lo ∨ (x k).hi ≤ (x j).lo) → Q .normal (putsFrom (fun _ => true) 0 l x a0) w) :
    ∀ (fuel : Nat) (listed : Array Bool) (x : Nat → Got) (a : Act) (w : World), listed.countP (fun b => !b) ≤ fuel → Held l deps a0 G N R listed x a w → wpAny P .any l.toArray Q fuel listed a w := by
  have done : ∀ (listed : Array Bool) (x : Nat → Got) (a : Act) (w : World), Held l deps a0 G N R listed x a w → Region.ready .any l.toArray listed = [] → Q .normal a w := by
    intro listed x a w h hr
    have hall : ∀ m, m < l.length → listed.getD m false = true := by
      intro m
      induction m using Nat.strongRecOn with
      | _ m ih =>
        intro hm
        by_cases hb : listed.getD m false = true
        · exact hb
        · exfalso
          have hms : m < listed.size := by rw [h.size]; exact hm
          have : m ∈ Region.ready .any l.toArray listed := mem_ready.2 ⟨by
            simp only [Array.getD_eq_getD_getElem?, Array.getElem?_eq_getElem hms, Option.getD_some] at hb ⊢
            simpa using hb, l[m], by simp [hm], fun e he hbi => by
              have := hB.back m l[m] e (by simp [hm]) he hbi
              exact ih e.on this (by omega)⟩
          rw [hr] at this
          cases this
    obtain ⟨f1, f2, f3, f4⟩ := putsFrom_spec (fun _ => true) l 0 x a0 hB.apart hB.inB
    simp only [Nat.zero_add] at f3
    have e : a = putsFrom (fun _ => true) 0 l x a0 := by
      have e1 : a.defers = (putsFrom (fun _ => true) 0 l x a0).defers := h.defers.trans f1.symm
      have e2 : a.tmps = (putsFrom (fun _ => true) 0 l x a0).tmps := by
        apply Array.ext_getElem?
        intro t
        by_cases hex : ∃ (j : Nat) (o' : Oper), l[j]? = some o' ∧ o'.dst = some t
        · obtain ⟨j, o', hj, hd⟩ := hex
          rw [f3 j o' t hj trivial hd, h.has j o' t hj hd (hall j (List.getElem?_eq_some_iff.1 hj).1)]
        · rw [f4 t (fun j o' hj _ hd => hex ⟨j, o', hj, hd⟩), h.not t (fun j o' hj _ hd => hex ⟨j, o', hj, hd⟩)]
      cases a
      generalize putsFrom (fun _ => true) 0 l x a0 = A at *
      cases A
      simp_all
    rw [e]
    exact hend x w h.g (fun j hj => h.r j (hall j hj)) (fun j hj => h.lo j (hall j hj)) (fun j k hj hk => h.dis j k (hall j hj) (hall k hk))
  intro fuel
  induction fuel with
  | zero =>
    intro listed x a w hc h
    have hr : Region.ready .any l.toArray listed = [] := by
      cases hr : Region.ready .any l.toArray listed with
      | nil => rfl
      | cons i rs =>
        exfalso
        obtain ⟨hun, o, ho, -⟩ := mem_ready.1 (by rw [hr]; exact List.mem_cons_self : i ∈ Region.ready .any l.toArray listed)
        have hils : i < listed.size := by
          rcases Nat.lt_or_ge i listed.size with h' | h'
          · exact h'
          · simp [Array.getElem?_eq_none h'] at hun
        have hb : listed[i] = false := by
          simp only [Array.getD_eq_getD_getElem?, Array.getElem?_eq_getElem hils, Option.getD_some] at hun
          exact hun
        have : 0 < listed.countP (fun b => !b) := Array.countP_pos_iff.2 ⟨listed[i], Array.getElem_mem hils, by simp [hb]⟩
        omega
    exact ⟨hr, done listed x a w h hr⟩
  | succ fuel ih =>
    intro listed x a w hc h
    refine ⟨done listed x a w h, fun i hi => ?_⟩
    obtain ⟨hun, o, ho, hall⟩ := mem_ready.1 hi
    have hil : l[i]? = some o := by simpa using ho
    have hstep := stepsFrom_get l 0 hs i o hil
    rw [Nat.zero_add] at hstep
    refine wpOp_mono (fun a' w' ⟨x', h'⟩ => ih _ x' a' w' ?_ h') (held_step hB hloc h hil hun hall hstep)
    have hils : i < listed.size := by rw [h.size]; exact (List.getElem?_eq_some_iff.1 hil).1
    have hb : listed[i] = false := by
      simp only [Array.getD_eq_getD_getElem?, Array.getElem?_eq_getElem hils, Option.getD_some] at hun
      exact hun
    rw [show listed.setIfInBounds i true = listed.set i true hils from by unfold Array.setIfInBounds; rw [dif_pos hils], Array.countP_set]
    simp only [hb]
    have : 0 < listed.countP (fun b => !b) := Array.countP_pos_iff.2 ⟨listed[i], Array.getElem_mem hils, by simp [hb]⟩
    simp
    omega

/-- **A region that draws its order, by one relation.** -/
theorem wp_region_rel {id : Nat} {w : World} (hm : P.follows .mixedOrders = true) (deps : List (List Nat)) (G : World → Prop) (N : Nat → World → Prop) (R : Nat → (Nat → Got) → World → Prop) (hB : relB l deps a0.tmps.size = true)
    (hloc : ∀ j x x' w, (∀ k, k = j ∨ k ∈ depsOf deps j → x k = x' k) → R j x w → R j x' w) (hg : G w.drew) (hn : ∀ j, j < l.length → N j w.drew)
    (hs : stepsFrom P l deps a0 G N R 0 l)
    (hend : ∀ (x : Nat → Got) (w : World), G w → (∀ j, j < l.length → R j x w) → (∀ j, j < l.length → (x j).lo ≤ (x j).hi ∧ (x j).hi ≤ w.heap.size) → (∀ j k, j < l.length → k < l.length → j ≠ k → (x j).hi ≤ (x k).lo ∨ (x k).hi ≤ (x j).lo) → Q .normal (putsFrom (fun _ => true) 0 l x a0) w) :
    (Code.region id l.toArray true).wp P Q a0 w := by
  refine wp_region_any hm (held_any (relOk hB) hloc hs hend _ _ (fun _ => ⟨undef, 0, 0⟩) _ _ ?_ ?_)
  · refine Nat.le_trans Array.countP_le_size ?_
    simp
  · have hf : ∀ j, (Array.replicate l.toArray.size false).getD j false = true → False := fun j hj => by
      simp [Array.getElem?_replicate] at hj
      split at hj <;> simp at hj
    exact { size := by simp, g := hg, nn := fun j hj _ => hn j hj, r := fun j hj => (hf j hj).elim, lo := fun j hj => (hf j hj).elim, dis := fun j k hj => (hf j hj).elim, shut := fun j k hj => (hf j hj).elim, defers := rfl, tsize := rfl, has := fun j o d _ _ hj => (hf j hj).elim, not := fun t _ => rfl }

end

/-- What an operation gives: a value, of which p holds (p may look at what the operations ds gave, and at the blocks that were laid while it ran); or a new variable of n cells; or nothing: it stores what operation src gave into the variable that operation bx laid; or into the variable at block g, which was there ahead of the region. -/
abbrev Knd := Sum (List Nat × (World → Got → List Value → Prop)) (Sum (TypeId × Nat) (Sum (Nat × Nat × TypeId × Nat) (Nat × Nat × TypeId × Nat)))
abbrev Knd.val (ds : List Nat) (p : World → Got → List Value → Prop) : Knd := .inl (ds, p)
abbrev Knd.box (E : TypeId) (n : Nat) : Knd := .inr (.inl (E, n))
abbrev Knd.sto (bx src : Nat) (E : TypeId) (n : Nat) : Knd := .inr (.inr (.inl (bx, src, E, n)))
abbrev Knd.old (g src : Nat) (E : TypeId) (n : Nat) : Knd := .inr (.inr (.inr (g, src, E, n)))

def Knd.holds (wb : World) (k : Knd) (j : Nat) (x : Nat → Got) (w : World) : Prop :=
  match k with
  | .inl (ds, p) => p w (x j) (ds.map fun i => (x i).v)
  | .inr (.inl (E, n)) => (x j).v = .pointer (some ⟨(x j).lo, 0, none⟩) ∧ (x j).lo < (x j).hi ∧ wb.heap.size ≤ (x j).lo ∧ ∃ cs : Array Value, cs.size = n ∧ w.heap[(x j).lo]? = some (.cells cs E (0, 0))
  | .inr (.inr (.inl (bx, src, E, n))) => ∃ cs : Array Value, cs.size = n ∧ (x src).v = .agg cs ∧ w.heap[(x bx).lo]? = some (.cells cs E (0, 0))
  | .inr (.inr (.inr (g, src, E, n))) => ∃ cs : Array Value, cs.size = n ∧ (x src).v = .agg cs ∧ w.heap[g]? = some (.cells cs E (0, 0))

def kR (wb : World) (ks : List Knd) (j : Nat) (x : Nat → Got) (w : World) : Prop := match ks[j]? with | some k => Knd.holds wb k j x w | none => True

def Knd.Stable : Knd → Prop
  | .inl (_, p) => ∀ w w' g vs, (∀ b, g.lo ≤ b → b < g.hi → w'.heap[b]? = w.heap[b]?) → p w g vs → p w' g vs
  | _ => True
def AllStable : List Knd → Prop
  | [] => True
  | k :: ks => Knd.Stable k ∧ AllStable ks
theorem AllStable.get : ∀ {ks : List Knd}, AllStable ks → ∀ (j : Nat) (k : Knd), ks[j]? = some k → Knd.Stable k
  | _ :: _, h, 0, _, e => by cases e; exact h.1
  | _ :: _, h, j + 1, k, e => AllStable.get h.2 j k (by simpa using e)

/-- The older variable that is stored into. -/
def oldG : Knd → Option Nat
  | .inr (.inr (.inr (g, _, _, _))) => some g
  | _ => none
/-- Older variables: from a on, below b, each stored into once. -/
def OldsIn (a b : Nat) : List Knd → Prop
  | [] => True
  | k :: ks => (match oldG k with | some g => a ≤ g ∧ g < b ∧ ∀ k' ∈ ks, oldG k' ≠ some g | none => True) ∧ OldsIn a b ks
theorem OldsIn.get {a b : Nat} : ∀ {ks : List Knd}, OldsIn a b ks → ∀ (j : Nat) (k : Knd) (g : Nat), ks[j]? = some k → oldG k = some g → a ≤ g ∧ g < b
  | k :: _, h, 0, k', g, e, eg => by
    cases e
    have := h.1
    rw [eg] at this
    exact ⟨this.1, this.2.1⟩
  | _ :: _, h, j + 1, k, g, e, eg => OldsIn.get h.2 j k g (by simpa using e) eg
theorem OldsIn.uniq {a b : Nat} : ∀ {ks : List Knd}, OldsIn a b ks → ∀ (i j : Nat) (k k' : Knd) (g : Nat), ks[i]? = some k → ks[j]? = some k' → oldG k = some g → oldG k' = some g → i = j
  | k0 :: ks, h, 0, 0, _, _, _, _, _, _, _ => rfl
  | k0 :: ks, h, 0, j + 1, k, k', g, e, e', eg, eg' => by
    cases e
    have := h.1
    rw [eg] at this
    exact absurd eg' (this.2.2 k' (List.mem_of_getElem? (by simpa using e')))
  | k0 :: ks, h, i + 1, 0, k, k', g, e, e', eg, eg' => by
    cases e'
    have := h.1
    rw [eg'] at this
    exact absurd eg (this.2.2 k (List.mem_of_getElem? (by simpa using e)))
  | k0 :: ks, h, i + 1, j + 1, k, k', g, e, e', eg, eg' => by
    have := OldsIn.uniq h.2 i j k k' g (by simpa using e) (by simpa using e') eg eg'
    omega

def kndB (ks : List Knd) (deps : List (List Nat)) : Bool :=
  (List.range ks.length).all fun j => match ks[j]? with
    | some (.inl (ds, _)) => ds.all fun i => (depsOf deps j).contains i
    | some (.inr (.inr (.inl (bx, src, E, n)))) => (depsOf deps j).contains bx && ((depsOf deps j).contains src && ((match ks[bx]? with | some (.inr (.inl (E', n'))) => E == E' && n == n' | _ => false) &&
        (List.range ks.length).all fun i => i == j || match ks[i]? with | some (.inr (.inr (.inl (bx', _, _, _)))) => bx' != bx | _ => true))
    | some (.inr (.inr (.inr (_, src, _, _)))) => (depsOf deps j).contains src
    | _ => true

theorem kndB_val {ks : List Knd} {deps : List (List Nat)} (h : kndB ks deps = true) {j : Nat} {ds : List Nat} {p : World → Got → List Value → Prop} (e : ks[j]? = some (Knd.val ds p)) : ∀ i ∈ ds, i ∈ depsOf deps j := by
  have := (List.all_eq_true.1 h) j (List.mem_range.2 (List.getElem?_eq_some_iff.1 e).1)
  simp only [e] at this
  exact fun i hi => List.contains_iff_mem.1 ((List.all_eq_true.1 this) i hi)
theorem kndB_old {ks : List Knd} {deps : List (List Nat)} (h : kndB ks deps = true) {j g src n : Nat} {E : TypeId} (e : ks[j]? = some (Knd.old g src E n)) : src ∈ depsOf deps j := by
  have := (List.all_eq_true.1 h) j (List.mem_range.2 (List.getElem?_eq_some_iff.1 e).1)
  simp only [e] at this
  exact List.contains_iff_mem.1 this
theorem kndB_sto {ks : List Knd} {deps : List (List Nat)} (h : kndB ks deps = true) {j bx src n : Nat} {E : TypeId} (e : ks[j]? = some (Knd.sto bx src E n)) :
    bx ∈ depsOf deps j ∧ src ∈ depsOf deps j ∧ ks[bx]? = some (Knd.box E n) ∧ ∀ (i src' n' : Nat) (E' : TypeId), ks[i]? = some (Knd.sto bx src' E' n') → i = j := by
  have := (List.all_eq_true.1 h) j (List.mem_range.2 (List.getElem?_eq_some_iff.1 e).1)
  simp only [e, Bool.and_eq_true, List.contains_iff_mem] at this
  obtain ⟨h1, h2, h3, h4⟩ := this
  refine ⟨h1, h2, ?_, fun i src' n' E' hi => ?_⟩
  · cases hb : ks[bx]? with
    | none => rw [hb] at h3; cases h3
    | some k =>
      rw [hb] at h3
      rcases k with ⟨ds, p⟩ | ⟨E', n'⟩ | ⟨a, b, c, d⟩ | ⟨a, b, c, d⟩
      · cases h3
      · simp only [Bool.and_eq_true, beq_iff_eq] at h3; rw [h3.1, h3.2]
      · cases h3
      · cases h3
  · have := (List.all_eq_true.1 h4) i (List.mem_range.2 (List.getElem?_eq_some_iff.1 hi).1)
    simpa [hi] using this

/-- Nothing but block g has turned. -/
structure Turn (g : Nat) (w w' : World) : Prop where
  os : w'.os = w.os
  tape : w'.tape = w.tape
  output : w'.output = w.output
  size : w'.heap.size = w.heap.size
  block : ∀ b, b ≠ g → w'.heap[b]? = w.heap[b]?
theorem Turn.up {g : Nat} {a w w' : World} (t : Turn g w w') (u : Up a w) (hg : a.heap.size ≤ g) : Up a w' :=
  ⟨t.os.trans u.os, t.tape.trans u.tape, t.output.trans u.output, by rw [t.size]; exact u.size, fun k hk => (t.block k (by omega)).trans (u.block k hk)⟩
theorem turn_setCell (w : World) (g i : Nat) (v : Value) : Turn g w (w.setCell ⟨g, i, none⟩ v) :=
  ⟨rfl, rfl, rfl, by simp [World.setCell], fun b hb => heap_setCell_other _ _ _ _ (show b ≠ g from hb)⟩
theorem Turn.trans {g : Nat} {a b c : World} (h : Turn g a b) (k : Turn g b c) : Turn g a c :=
  ⟨k.os.trans h.os, k.tape.trans h.tape, k.output.trans h.output, k.size.trans h.size, fun i hi => (k.block i hi).trans (h.block i hi)⟩

/-- Of what was there ahead of the region nothing has turned but the older variables that are stored into. -/
structure Since (wb : World) (ks : List Knd) (w : World) : Prop where
  os : w.os = wb.os
  tape : w.tape = wb.tape
  output : w.output = wb.output
  size : wb.heap.size ≤ w.heap.size
  rest : ∀ b, b < wb.heap.size → (∀ k ∈ ks, oldG k ≠ some b) → w.heap[b]? = wb.heap[b]?
theorem Since.up {wf wb w : World} {ks : List Knd} (h : Since wb ks w) (u : Up wf wb) (ho : OldsIn wf.heap.size wb.heap.size ks) : Up wf w :=
  ⟨h.os.trans u.os, h.tape.trans u.tape, h.output.trans u.output, Nat.le_trans u.size h.size, fun b hb => (h.rest b (Nat.lt_of_lt_of_le hb u.size) (fun k hk e => by
    obtain ⟨j, hj⟩ := List.getElem?_of_mem hk
    have := (ho.get j k b hj e).1
    omega)).trans (u.block b hb)⟩
theorem Since.upb {wb w : World} {ks : List Knd} (h : Since wb ks w) (hn : ks.all (fun k => (oldG k).isNone) = true) : Up wb w :=
  ⟨h.os, h.tape, h.output, h.size, fun b hb => h.rest b hb (fun k hk e => by have := (List.all_eq_true.1 hn) k hk; rw [e] at this; cases this)⟩

/-- Block b is none of the older variables that are stored into. -/
def NotOld (b : Nat) : List Knd → Prop
  | [] => True
  | k :: ks => (match oldG k with | some g => b ≠ g | none => True) ∧ NotOld b ks
theorem NotOld.get {b : Nat} : ∀ {ks : List Knd}, NotOld b ks → ∀ k ∈ ks, oldG k ≠ some b
  | k0 :: _, h, k, hk, e => by
    rcases List.mem_cons.1 hk with rfl | hk
    · have := h.1
      rw [e] at this
      exact this rfl
    · exact NotOld.get h.2 k hk e
theorem Since.at {wb w : World} {ks : List Knd} (h : Since wb ks w) {b : Nat} {o : Obj} (hb : wb.heap[b]? = some o) (hn : NotOld b ks) : w.heap[b]? = some o :=
  (h.rest b (Array.getElem?_eq_some_iff.1 hb).1 hn.get).trans hb
/-- The older variables that are stored into are no rows of limbs. -/
def OldTyped (wb : World) (U : TypeId) : List Knd → Prop
  | [] => True
  | k :: ks => (match oldG k with | some g => ∃ cs E, wb.heap[g]? = some (.cells cs E (0, 0)) ∧ E ≠ U | none => True) ∧ OldTyped wb U ks
theorem OldTyped.get {wb : World} {U : TypeId} : ∀ {ks : List Knd}, OldTyped wb U ks → ∀ k ∈ ks, ∀ g, oldG k = some g → ∃ cs E, wb.heap[g]? = some (.cells cs E (0, 0)) ∧ E ≠ U
  | k0 :: _, h, k, hk, g, e => by
    rcases List.mem_cons.1 hk with rfl | hk
    · have := h.1
      rw [e] at this
      exact this
    · exact OldTyped.get h.2 k hk g e

def Moves (ks : List Knd) (i : Nat) (x : Nat → Got) (w w' : World) : Prop := match ks[i]? with | some (.inr (.inr (.inl (bx, _, _, _)))) => Turn (x bx).lo w w' | some (.inr (.inr (.inr (g, _, _, _)))) => Turn g w w' | _ => Up w w'

/-- Operation o is carried out. -/
def kgoal (P : Program) (l : List Oper) (o : Oper) (A : Act) (w : World) (K : Value → List Deferred → World → Prop) (d : List Deferred) : Prop :=
  match o.guard with
  | none => Oper.wp P o A w (fun a' w' => K (gotOf o a') a'.defers w') (fun _ _ _ => False)
  | some _ => if Region.wanted o (yielded l.toArray A.tmps) = true then Oper.wp P o A w (fun a' w' => K (gotOf o a') a'.defers w') (fun _ _ _ => False) else K undef d w
theorem kgoal_if {P : Program} {l : List Oper} {o : Oper} {A : Act} {w : World} {K : Value → List Deferred → World → Prop} {d : List Deferred} (h : kgoal P l o A w K d) :
    if Region.wanted o (yielded l.toArray A.tmps) = true then Oper.wp P o A w (fun a' w' => K (gotOf o a') a'.defers w') (fun _ _ _ => False) else K undef d w := by
  unfold kgoal at h
  cases hg : o.guard with
  | none =>
    rw [hg] at h
    rw [if_pos (by unfold Region.wanted; rw [hg])]
    exact h
  | some g =>
    rw [hg] at h
    exact h

/-- A goal that no tactic looks into till it is opened. -/
structure Veil (p : Prop) : Prop where
  out : p

def kstepAt (P : Program) (l : List Oper) (deps : List (List Nat)) (a0 : Act) (wf wb : World) (ks : List Knd) (i : Nat) (o : Oper) : Prop :=
  ∀ (x : Nat → Got) (w : World) (K : Value → List Deferred → World → Prop),
    Up wf w → Since wb ks w → (∀ (j : Nat) (k : Knd) (g : Nat), ks[j]? = some k → oldG k = some g → i = j ∨ i ∈ depsOf deps j → w.heap[g]? = wb.heap[g]?) →
    (∀ j, j ∈ depsOf deps i → kR wb ks j x w ∧ (x j).lo ≤ (x j).hi ∧ (x j).hi ≤ w.heap.size ∧ wb.heap.size ≤ (x j).lo) →
    (∀ v w', Moves ks i x w w' → kR wb ks i (setG x i ⟨v, w.heap.size, w'.heap.size⟩) w' → K v a0.defers w') →
    Veil (kgoal P l o (putsFrom (fun k => (depsOf deps i).contains k) 0 l x a0) w K a0.defers)

def kstepsFrom (P : Program) (l : List Oper) (deps : List (List Nat)) (a0 : Act) (wf wb : World) (ks : List Knd) : Nat → List Oper → Prop
  | _, [] => True
  | k, o :: rest => kstepAt P l deps a0 wf wb ks k o ∧ kstepsFrom P l deps a0 wf wb ks (k + 1) rest

/-- All that is known of operation j. -/
def kRR (wb : World) (ks : List Knd) (j : Nat) (x : Nat → Got) (w : World) : Prop := wb.heap.size ≤ (x j).lo ∧ kR wb ks j x w

theorem kR_loc {wb : World} {ks : List Knd} {deps : List (List Nat)} (hk : kndB ks deps = true) : ∀ j x x' w, (∀ k, k = j ∨ k ∈ depsOf deps j → x k = x' k) → kRR wb ks j x w → kRR wb ks j x' w := by
  intro j x x' w h hr
  refine ⟨by rw [← h j (.inl rfl)]; exact hr.1, ?_⟩
  replace hr := hr.2
  unfold kR at *
  cases e : ks[j]? with
  | none => trivial
  | some k =>
    rw [e] at hr
    rcases k with ⟨ds, p⟩ | ⟨E, n⟩ | ⟨bx, src, E, n⟩ | ⟨g, src, E, n⟩
    · have hd := kndB_val hk e
      simp only [Knd.holds] at hr ⊢
      rw [← h j (.inl rfl), show (ds.map fun i => (x' i).v) = ds.map fun i => (x i).v from List.map_congr_left fun i hi => by rw [h i (.inr (hd i hi))]]
      exact hr
    · simp only [Knd.holds] at hr ⊢
      rw [← h j (.inl rfl)]
      exact hr
    · obtain ⟨h1, h2, -⟩ := kndB_sto hk e
      simp only [Knd.holds] at hr ⊢
      rw [← h bx (.inr h1), ← h src (.inr h2)]
      exact hr
    · have h2 := kndB_old hk e
      simp only [Knd.holds] at hr ⊢
      rw [← h src (.inr h2)]
      exact hr

/-- What is known of the older variables that are not stored into yet. -/
def kN (wb : World) (ks : List Knd) (j : Nat) (w : World) : Prop := ∀ (k : Knd) (g : Nat), ks[j]? = some k → oldG k = some g → w.heap[g]? = wb.heap[g]?

theorem kstep_step {P : Program} {l : List Oper} {deps : List (List Nat)} {a0 : Act} {wf wb : World} {ks : List Knd} (hk : kndB ks deps = true) (hst : AllStable ks) (huf : Up wf wb) (hold : OldsIn wf.heap.size wb.heap.size ks) (hlen : ks.length ≤ l.length) {i : Nat} {o : Oper} (h : kstepAt P l deps a0 wf wb ks i o) :
    stepAt P l deps a0 (Since wb ks) (kN wb ks) (kRR wb ks) i o := by
  intro x w L K hG hd hR hlo hdis hshut hni hN hK
  have inl : ∀ (j : Nat) (k : Knd), ks[j]? = some k → j < l.length := fun j k e => Nat.lt_of_lt_of_le (List.getElem?_eq_some_iff.1 e).1 hlen
  refine kgoal_if (Veil.out (h x w K (hG.up huf hold) hG (fun j k g e eg hor => hN j (inl j k e) ?_ k g e eg) (fun j hj => ⟨(hR j (hd j hj)).2, (hlo j (hd j hj)).1, (hlo j (hd j hj)).2, (hR j (hd j hj)).1⟩) (fun v w' hm hr => ?_)))
  · rcases hor with rfl | hor
    · exact hni
    · exact fun hl => hni (hshut j i hl hor)
  -- other operations' facts
  have box : ∀ (j : Nat) (E : TypeId) (n : Nat), ks[j]? = some (Knd.box E n) → L j → (x j).lo < (x j).hi ∧ wb.heap.size ≤ (x j).lo := fun j E n e hj => by
    have := (hR j hj).2
    unfold kR at this
    rw [e] at this
    exact ⟨this.2.1, this.2.2.1⟩
  have far : ∀ (w' : World) (j : Nat), (∀ b, (x j).lo ≤ b → b < (x j).hi → w'.heap[b]? = w.heap[b]?) → (∀ bx src E n, ks[j]? = some (Knd.sto bx src E n) → w'.heap[(x bx).lo]? = w.heap[(x bx).lo]?) → (∀ g src E n, ks[j]? = some (Knd.old g src E n) → w'.heap[g]? = w.heap[g]?) → L j → kRR wb ks j x w' := fun w' j h1 h2 h3 hj => by
    have h0 := (hR j hj).2
    refine ⟨(hR j hj).1, ?_⟩
    unfold kR at h0 ⊢
    cases e : ks[j]? with
    | none => trivial
    | some k =>
      rw [e] at h0
      rcases k with ⟨ds, p⟩ | ⟨E, n⟩ | ⟨bx, src, E, n⟩ | ⟨g, src, E, n⟩
      · exact hst.get j _ e w w' _ _ h1 h0
      · obtain ⟨a1, a2, a3, cs, a4, a5⟩ := h0
        exact ⟨a1, a2, a3, cs, a4, (h1 _ (Nat.le_refl _) a2).trans a5⟩
      · obtain ⟨cs, a0, a1, a2⟩ := h0
        exact ⟨cs, a0, a1, (h2 bx src E n e).trans a2⟩
      · obtain ⟨cs, a0, a1, a2⟩ := h0
        exact ⟨cs, a0, a1, (h3 g src E n e).trans a2⟩
  have hsz : wb.heap.size ≤ w.heap.size := hG.size
  have hri : kRR wb ks i (setG x i ⟨v, w.heap.size, w'.heap.size⟩) w' := ⟨by rw [setG_same]; exact hsz, hr⟩
  unfold Moves at hm
  by_cases hs : ∃ bx src E n, ks[i]? = some (Knd.sto bx src E n)
  · obtain ⟨bx, src, E, n, e⟩ := hs
    rw [e] at hm
    replace hm : Turn (x bx).lo w w' := hm
    obtain ⟨hbx, hsrc, eb, huniq⟩ := kndB_sto hk e
    have lb := hd bx hbx
    obtain ⟨b1, b2⟩ := box bx E n eb lb
    have hG' : Since wb ks w' := ⟨hm.os.trans hG.os, hm.tape.trans hG.tape, hm.output.trans hG.output, by rw [hm.size]; exact hsz, fun b hb hn => (hm.block b (by omega)).trans (hG.rest b hb hn)⟩
    refine hK v w' hG' (by rw [hm.size]; exact Nat.le_refl _) hri (fun j hji hj => ?_) (fun j hj hji hnl k g ek eg => (hm.block g (by have := (hold.get j k g ek eg).2; omega)).trans (hN j hj hnl k g ek eg))
    by_cases ejb : j = bx
    · -- the variable itself
      subst ejb
      have h0 := (hR j hj).2
      refine ⟨(hR j hj).1, ?_⟩
      unfold kR at h0 ⊢
      rw [eb] at h0 ⊢
      obtain ⟨a1, a2, a3, cs, a4, a5⟩ := h0
      have hr' := hr
      unfold kR at hr'
      rw [e] at hr'
      obtain ⟨cs', c0, c1, c2⟩ := hr'
      have hjne : j ≠ i := hji
      rw [setG_other hjne] at c2
      exact ⟨a1, a2, a3, cs', c0, c2⟩
    · refine far w' j (fun b h1 h2 => hm.block b ?_) (fun bx' src' E' n' e' => hm.block _ ?_) (fun g src' E' n' e' => hm.block _ ?_) hj
      · have := hdis j bx hj lb ejb
        omega
      · obtain ⟨hbx', -, eb', -⟩ := kndB_sto hk e'
        have hne : bx' ≠ bx := fun eq => hji (huniq j src' n' E' (by rw [← eq]; exact e'))
        have lb' := hshut j bx' hj hbx'
        have := hdis bx' bx lb' lb hne
        have := (box bx' E' n' eb' lb').1
        omega
      · have := (hold.get j _ g e' rfl).2
        omega
  · by_cases ho : ∃ g src E n, ks[i]? = some (Knd.old g src E n)
    · obtain ⟨g, src, E, n, e⟩ := ho
      rw [e] at hm
      replace hm : Turn g w w' := hm
      obtain ⟨g1, g2⟩ := hold.get i _ g e rfl
      have hG' : Since wb ks w' := ⟨hm.os.trans hG.os, hm.tape.trans hG.tape, hm.output.trans hG.output, by rw [hm.size]; exact hsz, fun b hb hn => (hm.block b (fun eq => hn _ (List.mem_of_getElem? e) (by rw [eq]; rfl))).trans (hG.rest b hb hn)⟩
      refine hK v w' hG' (by rw [hm.size]; exact Nat.le_refl _) hri (fun j hji hj => ?_) (fun j hj hji hnl k g' ek eg => (hm.block g' (fun eq => hji (hold.uniq j i k _ g ek e (by rw [← eq]; exact eg) rfl))).trans (hN j hj hnl k g' ek eg))
      refine far w' j (fun b h1 h2 => hm.block b ?_) (fun bx' src' E' n' e' => hm.block _ ?_) (fun g' src' E' n' e' => hm.block _ ?_) hj
      · have := (hR j hj).1
        omega
      · obtain ⟨hbx', -, eb', -⟩ := kndB_sto hk e'
        have := (box bx' E' n' eb' (hshut j bx' hj hbx')).2
        omega
      · exact fun eq => hji (hold.uniq j i _ _ g e' e (by rw [← eq]; rfl) rfl)
    · have hm' : Up w w' := by
        cases e : ks[i]? with
        | none => rw [e] at hm; exact hm
        | some k =>
          rw [e] at hm
          rcases k with ⟨ds, p⟩ | ⟨E, n⟩ | ⟨a, b, c, d⟩ | ⟨a, b, c, d⟩
          · exact hm
          · exact hm
          · exact absurd ⟨a, b, c, d, e⟩ hs
          · exact absurd ⟨a, b, c, d, e⟩ ho
      have hG' : Since wb ks w' := ⟨(Below.os hm').trans hG.os, (Below.tape hm').trans hG.tape, (Below.output hm').trans hG.output, Nat.le_trans hsz (Below.size hm'), fun b hb hn => (Below.block hm' b (by omega)).trans (hG.rest b hb hn)⟩
      refine hK v w' hG' (Below.size hm') hri (fun j hji hj => far w' j (fun b h1 h2 => Below.block hm' b ?_) (fun bx src E n e => Below.block hm' _ ?_) (fun g src E n e => Below.block hm' _ ?_) hj)
        (fun j hj hji hnl k g ek eg => (Below.block hm' g (by have := (hold.get j k g ek eg).2; omega)).trans (hN j hj hnl k g ek eg))
      · have := (hlo j hj).2
        omega
      · obtain ⟨hbx, -, eb, -⟩ := kndB_sto hk e
        have lb := hshut j bx hj hbx
        have h1 := (box bx E n eb lb).1
        have := (hlo bx lb).2
        omega
      · have := (hold.get j _ g e rfl).2
        omega

theorem ksteps_steps {P : Program} {l : List Oper} {deps : List (List Nat)} {a0 : Act} {wf wb : World} {ks : List Knd} (hk : kndB ks deps = true) (hst : AllStable ks) (huf : Up wf wb) (hold : OldsIn wf.heap.size wb.heap.size ks) (hlen : ks.length ≤ l.length) : ∀ (r : List Oper) (k : Nat), kstepsFrom P l deps a0 wf wb ks k r → stepsFrom P l deps a0 (Since wb ks) (kN wb ks) (kRR wb ks) k r
  | [], _, _ => trivial
  | _ :: r, k, h => ⟨kstep_step hk hst huf hold hlen h.1, ksteps_steps hk hst huf hold hlen r (k + 1) h.2⟩

/-- **A region that draws its order: what each operation gives.** -/
theorem wp_region_knd {P : Program} {l : List Oper} {a0 : Act} {Q : Exit → Act → World → Prop} {id : Nat} {w : World} (hm : P.follows .mixedOrders = true) (wf : World) (huf : Up wf w) (deps : List (List Nat)) (ks : List Knd) (hB : relB l deps a0.tmps.size = true) (hk : kndB ks deps = true) (hlen : ks.length = l.length)
    (hold : OldsIn wf.heap.size w.heap.size ks) (hst : AllStable ks) (hs : kstepsFrom P l deps a0 wf w.drew ks 0 l)
    (hend : ∀ (x : Nat → Got) (w' : World), Up wf w' → Since w.drew ks w' → (∀ j, j < l.length → kR w.drew ks j x w') → (∀ j, j < l.length → w.heap.size ≤ (x j).lo ∧ (x j).lo ≤ (x j).hi ∧ (x j).hi ≤ w'.heap.size) → (∀ j k, j < l.length → k < l.length → j ≠ k → (x j).hi ≤ (x k).lo ∨ (x k).hi ≤ (x j).lo) → Veil (Q .normal (putsFrom (fun _ => true) 0 l x a0) w')) :
    (Code.region id l.toArray true).wp P Q a0 w :=
  have huf' : Up wf w.drew := huf.tr (up_drew w)
  wp_region_rel hm deps (Since w.drew ks) (kN w.drew ks) (kRR w.drew ks) hB (kR_loc hk) ⟨rfl, rfl, rfl, Nat.le_refl _, fun _ _ _ => rfl⟩ (fun _ _ _ _ _ _ => rfl) (ksteps_steps hk hst huf' hold (Nat.le_of_eq hlen) l 0 hs)
    (fun x w' hG hR hlo hdis => Veil.out <| hend x w' (hG.up huf' hold) hG (fun j hj => (hR j hj).2) (fun j hj => ⟨(hR j hj).1, (hlo j hj).1, (hlo j hj).2⟩) hdis)

/-- A variable that was just laid. -/
theorem box_new {wb w1 : World} {x : Nat → Got} {i n : Nat} {E : TypeId} {cs : Array Value} {ks : List Knd} (hn : cs.size = n) (u : Since wb ks w1) :
    Knd.holds wb (Knd.box E n) i (setG x i ⟨.pointer (some ⟨w1.heap.size, 0, none⟩), w1.heap.size, (w1.alloc (.cells cs E)).heap.size⟩) (w1.alloc (.cells cs E)) := by
  simp only [Knd.holds, setG_same]
  exact ⟨trivial, by simp, u.size, cs, hn, heap_alloc_new w1 _⟩
theorem two_cells {cs : Array Value} (h : cs.size = 2) : ∃ c0 c1, cs = #[c0, c1] := by
  obtain ⟨l⟩ := cs
  match l, h with
  | [c0, c1], _ => exact ⟨c0, c1, rfl⟩
theorem box_two {wb w1 : World} {x : Nat → Got} {i : Nat} {E : TypeId} (h : Knd.holds wb (Knd.box E 2) i x w1) :
    ∃ c0 c1, (x i).v = .pointer (some ⟨(x i).lo, 0, none⟩) ∧ w1.heap[(x i).lo]? = some (.cells #[c0, c1] E (0, 0)) := by
  obtain ⟨h1, h2, h3, cs, h4, h5⟩ := h
  obtain ⟨c0, c1, rfl⟩ := two_cells h4
  exact ⟨c0, c1, h1, h5⟩
theorem kR_some {wb w : World} {x : Nat → Got} {ks : List Knd} {j : Nat} {k : Knd} (h : kR wb ks j x w) (e : ks[j]? = some k) : Knd.holds wb k j x w := by
  unfold kR at h
  rw [e] at h
  exact h
theorem kval {wb w : World} {x : Nat → Got} {ks : List Knd} {j : Nat} {ds : List Nat} {p : World → Got → List Value → Prop} (h : kR wb ks j x w) (e : ks[j]? = some (Knd.val ds p)) : p w (x j) (ds.map fun i => (x i).v) := kR_some h e
theorem ksto {wb w : World} {x : Nat → Got} {ks : List Knd} {j bx src n : Nat} {E : TypeId} (h : kR wb ks j x w) (e : ks[j]? = some (Knd.sto bx src E n)) : ∃ cs : Array Value, cs.size = n ∧ (x src).v = .agg cs ∧ w.heap[(x bx).lo]? = some (.cells cs E (0, 0)) := kR_some h e
theorem kold {wb w : World} {x : Nat → Got} {ks : List Knd} {j g src n : Nat} {E : TypeId} (h : kR wb ks j x w) (e : ks[j]? = some (Knd.old g src E n)) : ∃ cs : Array Value, cs.size = n ∧ (x src).v = .agg cs ∧ w.heap[g]? = some (.cells cs E (0, 0)) := kR_some h e
theorem kbox {wb w : World} {x : Nat → Got} {ks : List Knd} {j n : Nat} {E : TypeId} (h : kR wb ks j x w) (e : ks[j]? = some (Knd.box E n)) : (x j).v = .pointer (some ⟨(x j).lo, 0, none⟩) ∧ (x j).lo < (x j).hi := ⟨(kR_some h e).1, (kR_some h e).2.1⟩
theorem kbox2 {wb w : World} {x : Nat → Got} {ks : List Knd} {j : Nat} {E : TypeId} (h : kR wb ks j x w) (e : ks[j]? = some (Knd.box E 2)) : ∃ c0 c1, (x j).v = .pointer (some ⟨(x j).lo, 0, none⟩) ∧ w.heap[(x j).lo]? = some (.cells #[c0, c1] E (0, 0)) := box_two (kR_some h e)
/-- Two cells of a variable are set. -/
theorem sto_two {w1 : World} {g : Nat} {c0 c1 : Value} {E : TypeId} (h : w1.heap[g]? = some (.cells #[c0, c1] E (0, 0))) (v0 v1 : Value) :
    Turn g w1 ((w1.setCell ⟨g, 0, none⟩ v0).setCell ⟨g, 1, none⟩ v1) ∧ ((w1.setCell ⟨g, 0, none⟩ v0).setCell ⟨g, 1, none⟩ v1).heap[g]? = some (.cells #[v0, v1] E (0, 0)) := by
  refine ⟨(turn_setCell _ _ _ _).trans (turn_setCell _ _ _ _), ?_⟩
  have h1 := heap_setCell_same w1 g 0 _ E v0 h
  exact heap_setCell_same (w1.setCell ⟨g, 0, none⟩ v0) g 1 _ E v1 h1

/-! Short names for what lays a frame out. -/
theorem pu0 {α : Type} {d a : α} {l : List α} : (a :: l).getD 0 d = a := rfl
theorem pu1 {α : Type} {d a : α} {l : List α} {n : Nat} : (a :: l).getD (n + 1) d = l.getD n d := rfl
theorem pu2 {a : Nat} : ([] : List Nat).contains a = false := rfl
theorem pu3 {a b : Nat} {l : List Nat} : (b :: l).contains a = (a == b || l.contains a) := List.contains_cons
theorem pu4 (a : Act) (d : Tmp) (v : Value) : a.put (some d) v = { a with tmps := a.tmps.setIfInBounds d v } := rfl
theorem pu5 (a : Act) (v : Value) : a.put none v = a := rfl

end Go.Proofs.Ytilcigjhogcjkaa
