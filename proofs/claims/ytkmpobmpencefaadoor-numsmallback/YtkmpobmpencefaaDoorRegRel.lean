/-
  What is proved here: a region that draws its order of evaluation, by one relation: what each operation gives, said of its value and of the world, as long as no other operation of the region turns it.
-/
import Derived.Orders
import Derived.Laws.World
namespace Go.Proofs.YtkmpobmpencefaaDoor
open Go

/-- What an operation gave: its value, and the blocks that were laid while it ran: from lo on, below hi. -/
structure Got where
  v : Value
  lo : Nat
  hi : Nat
def setG (x : Nat → Got) (i : Nat) (g : Got) : Nat → Got := fun j => if j = i then g else x j
theorem setG_same (x : Nat → Got) (i : Nat) (g : Got) : setG x i g i = g := by simp [setG]
theorem setG_other {x : Nat → Got} {i j : Nat} {g : Got} (h : j ≠ i) : setG x i g j = x j := by simp [setG, h]

/-- The frame with what the operations that are named gave. -/
def putsFrom (p : Nat → Bool) : Nat → List Oper → (Nat → Got) → Act → Act
  | _, [], _, a => a
  | k, o :: rest, x, a => putsFrom p (k + 1) rest x (if p k = true then a.put o.dst (x k).v else a)

def depsOf (deps : List (List Nat)) (i : Nat) : List Nat := deps.getD i []

def relB (l : List Oper) (deps : List (List Nat)) (sz : Nat) : Bool :=
  (List.range l.length).all fun i =>
    match l[i]? with
    | none => true
    | some o =>
      (match o.dst with
       | none => true
       | some d => decide (d < sz) && (List.range l.length).all fun j => j == i || (match l[j]? with | some o' => o'.dst != some d | none => true)) &&
      ((o.looksAt l.toArray).all (fun t => (List.range l.length).all fun j => (match l[j]? with | some o' => o'.dst != some t | none => true) || (depsOf deps i).contains j || (j != i && (depsOf deps j).contains i) || j == i) &&
      ((depsOf deps i).all (fun j => o.after.any fun e => Region.binds .any e && (e.on == j || (depsOf deps e.on).contains j)) &&
      (o.after.all (fun e => !Region.binds .any e || decide (e.on < i)) &&
      (match o.op with | .select .. => false | _ => true))))

structure RelOk (l : List Oper) (deps : List (List Nat)) (sz : Nat) : Prop where
  inB : ∀ (i : Nat) (o : Oper) (d : Tmp), l[i]? = some o → o.dst = some d → d < sz
  apart : ∀ (i j : Nat) (o o' : Oper) (d : Tmp), l[i]? = some o → l[j]? = some o' → o.dst = some d → o'.dst = some d → j = i
  looks : ∀ (i : Nat) (o : Oper) (t : Tmp) (j : Nat) (o' : Oper), l[i]? = some o → t ∈ o.looksAt l.toArray → l[j]? = some o' → o'.dst = some t → j ∈ depsOf deps i ∨ i ∈ depsOf deps j ∨ j = i
  waits : ∀ (i : Nat) (o : Oper) (j : Nat), l[i]? = some o → j ∈ depsOf deps i → ∃ e ∈ o.after, Region.binds .any e = true ∧ (e.on = j ∨ j ∈ depsOf deps e.on)
  back : ∀ (i : Nat) (o : Oper) (e : Edge), l[i]? = some o → e ∈ o.after → Region.binds .any e = true → e.on < i
  plain : ∀ (i : Nat) (o : Oper) (cs : Array SelectCase) (b : Bool), l[i]? = some o → o.op ≠ .select cs b

theorem relOk {l : List Oper} {deps : List (List Nat)} {sz : Nat} (h : relB l deps sz = true) : RelOk l deps sz := by
  have H : ∀ (i : Nat) (o : Oper), l[i]? = some o → _ := fun i o ho => (List.all_eq_true.1 h) i (List.mem_range.2 (List.getElem?_eq_some_iff.1 ho).1)
  have lt : ∀ (j : Nat) (o : Oper), l[j]? = some o → j ∈ List.range l.length := fun j o ho => List.mem_range.2 (List.getElem?_eq_some_iff.1 ho).1
  constructor
  · intro i o d ho hd
    have := H i o ho
    simp only [ho, hd, Bool.and_eq_true, decide_eq_true_eq] at this
    exact this.1.1
  · intro i j o o' d ho ho' hd hd'
    have := H i o ho
    simp only [ho, hd, Bool.and_eq_true] at this
    have h2 := (List.all_eq_true.1 this.1.2) j (lt j o' ho')
    simp only [ho', hd', bne_self_eq_false, Bool.or_false, beq_iff_eq] at h2
    exact h2
  · intro i o t j o' ho ht ho' hd'
    have := H i o ho
    simp only [ho, Bool.and_eq_true] at this
    have h2 := (List.all_eq_true.1 ((List.all_eq_true.1 this.2.1) t ht)) j (lt j o' ho')
    simp only [ho', hd', bne_self_eq_false, Bool.false_or, Bool.or_eq_true, Bool.and_eq_true, List.contains_iff_mem, beq_iff_eq] at h2
    rcases h2 with (h2 | h2) | h2
    · exact .inl h2
    · exact .inr (.inl h2.2)
    · exact .inr (.inr h2)
  · intro i o j ho hj
    have := H i o ho
    simp only [ho, Bool.and_eq_true] at this
    have h2 := (List.all_eq_true.1 this.2.2.1) j hj
    obtain ⟨e, he, hb⟩ := Array.any_eq_true'.1 h2
    simp only [Bool.and_eq_true, Bool.or_eq_true, beq_iff_eq, List.contains_iff_mem] at hb
    exact ⟨e, he, hb.1, hb.2⟩
  · intro i o e ho he hb
    have := H i o ho
    simp only [ho, Bool.and_eq_true] at this
    have h2 := (Array.all_eq_true_iff_forall_mem.1 this.2.2.2.1) e he
    simp only [hb, Bool.not_true, Bool.false_or, decide_eq_true_eq] at h2
    exact h2
  · intro i o cs b ho e
    have := H i o ho
    simp only [ho, Bool.and_eq_true] at this
    have h2 := this.2.2.2.2
    rw [e] at h2
    cases h2

def gotOf (o : Oper) (a : Act) : Value := match o.dst with | some d => a.tmps.getD d undef | none => undef

/-- What is asked of operation number i. -/
def stepAt (P : Program) (l : List Oper) (deps : List (List Nat)) (a0 : Act) (G : World → Prop) (N : Nat → World → Prop) (R : Nat → (Nat → Got) → World → Prop) (i : Nat) (o : Oper) : Prop :=
  ∀ (x : Nat → Got) (w : World) (L : Nat → Prop) (K : Value → List Deferred → World → Prop),
    G w → (∀ j, j ∈ depsOf deps i → L j) → (∀ j, L j → R j x w) → (∀ j, L j → (x j).lo ≤ (x j).hi ∧ (x j).hi ≤ w.heap.size) →
    (∀ j k, L j → L k → j ≠ k → (x j).hi ≤ (x k).lo ∨ (x k).hi ≤ (x j).lo) →
    (∀ j k, L j → k ∈ depsOf deps j → L k) → ¬ L i → (∀ j, j < l.length → ¬ L j → N j w) →
    (∀ v w', G w' → w.heap.size ≤ w'.heap.size → R i (setG x i ⟨v, w.heap.size, w'.heap.size⟩) w' → (∀ j, j ≠ i → L j → R j x w') → (∀ j, j < l.length → j ≠ i → ¬ L j → N j w') → K v a0.defers w') →
    if Region.wanted o (yielded l.toArray (putsFrom (fun k => (depsOf deps i).contains k) 0 l x a0).tmps) = true then Oper.wp P o (putsFrom (fun k => (depsOf deps i).contains k) 0 l x a0) w (fun a' w' => K (gotOf o a') a'.defers w') (fun _ _ _ => False) else K undef a0.defers w

def stepsFrom (P : Program) (l : List Oper) (deps : List (List Nat)) (a0 : Act) (G : World → Prop) (N : Nat → World → Prop) (R : Nat → (Nat → Got) → World → Prop) : Nat → List Oper → Prop
  | _, [] => True
  | k, o :: rest => stepAt P l deps a0 G N R k o ∧ stepsFrom P l deps a0 G N R (k + 1) rest

theorem stepsFrom_get {P : Program} {l : List Oper} {deps : List (List Nat)} {a0 : Act} {G : World → Prop} {N : Nat → World → Prop} {R : Nat → (Nat → Got) → World → Prop} : ∀ (r : List Oper) (k : Nat), stepsFrom P l deps a0 G N R k r → ∀ (i : Nat) (o : Oper), r[i]? = some o → stepAt P l deps a0 G N R (k + i) o
  | [], _, _, _, _, h => by cases h
  | o :: r, k, hs, 0, o', h => by cases h; exact hs.1
  | o :: r, k, hs, i + 1, o', h => by
    have := stepsFrom_get r (k + 1) hs.2 i o' (by simpa using h)
    rwa [show k + 1 + i = k + (i + 1) by omega] at this

/-- What the frame with these values reads. -/
theorem putsFrom_spec (p : Nat → Bool) : ∀ (r : List Oper) (k : Nat) (x : Nat → Got) (a : Act), (∀ (i j : Nat) (o o' : Oper) (d : Tmp), r[i]? = some o → r[j]? = some o' → o.dst = some d → o'.dst = some d → j = i) → (∀ (i : Nat) (o : Oper) (d : Tmp), r[i]? = some o → o.dst = some d → d < a.tmps.size) →
    (putsFrom p k r x a).defers = a.defers ∧ (putsFrom p k r x a).tmps.size = a.tmps.size ∧
    (∀ (j : Nat) (o : Oper) (d : Tmp), r[j]? = some o → p (k + j) = true → o.dst = some d → (putsFrom p k r x a).tmps[d]? = some (x (k + j)).v) ∧
    ∀ t, (∀ (j : Nat) (o : Oper), r[j]? = some o → p (k + j) = true → o.dst ≠ some t) → (putsFrom p k r x a).tmps[t]? = a.tmps[t]?
  | [], k, x, a, _, _ => ⟨rfl, rfl, (fun j o d h => by simp at h), fun t _ => rfl⟩
  | o :: r, k, x, a, hap, hin => by
    have psz : ∀ v, (a.put o.dst v).tmps.size = a.tmps.size := fun v => by cases h : o.dst <;> simp [Act.put]
    have pde : ∀ v, (a.put o.dst v).defers = a.defers := fun v => by cases h : o.dst <;> simp [Act.put]
    have hap' : ∀ (i j : Nat) (o o' : Oper) (d : Tmp), r[i]? = some o → r[j]? = some o' → o.dst = some d → o'.dst = some d → j = i := fun i j o o' d hi hj hd hd' => by have := hap (i + 1) (j + 1) o o' d (by simpa using hi) (by simpa using hj) hd hd'; omega
    by_cases hp : p k = true
    · obtain ⟨h1, h2, h3, h4⟩ := putsFrom_spec p r (k + 1) x (a.put o.dst (x k).v) hap'
        (fun i o' d hi hd => by rw [psz]; exact hin (i + 1) o' d (by simpa using hi) hd)
      have e : putsFrom p k (o :: r) x a = putsFrom p (k + 1) r x (a.put o.dst (x k).v) := by show putsFrom p (k + 1) r x (if p k = true then _ else _) = _; rw [if_pos hp]
      rw [e]
      refine ⟨h1.trans (pde _), h2.trans (psz _), fun j o' d hj hpj hd => ?_, fun t ht => ?_⟩
      · cases j with
        | zero =>
          cases hj
          rw [h4 d (fun j o'' hj _ hd' => by have := hap 0 (j + 1) o o'' d rfl (by simpa using hj) hd hd'; omega)]
          have := hin 0 o d rfl hd
          simp only [hd, Act.put]
          rw [Array.getElem?_setIfInBounds_self_of_lt this]
          rfl
        | succ j =>
          have := h3 j o' d (by simpa using hj) (by rw [show k + 1 + j = k + (j + 1) by omega]; exact hpj) hd
          rw [show k + (j + 1) = k + 1 + j by omega]
          exact this
      · rw [h4 t (fun j o'' hj hpj => ht (j + 1) o'' (by simpa using hj) (by rw [show k + (j + 1) = k + 1 + j by omega]; exact hpj))]
        have := ht 0 o rfl hp
        cases hd : o.dst with
        | none => rfl
        | some d =>
          simp only [Act.put]
          exact Array.getElem?_setIfInBounds_ne (fun e => this (by rw [hd, e]))
    · obtain ⟨h1, h2, h3, h4⟩ := putsFrom_spec p r (k + 1) x a hap' (fun i o' d hi hd => hin (i + 1) o' d (by simpa using hi) hd)
      have e : putsFrom p k (o :: r) x a = putsFrom p (k + 1) r x a := by show putsFrom p (k + 1) r x (if p k = true then _ else _) = _; rw [if_neg hp]
      rw [e]
      refine ⟨h1, h2, fun j o' d hj hpj hd => ?_, fun t ht => ?_⟩
      · cases j with
        | zero => exact absurd hpj hp
        | succ j =>
          have := h3 j o' d (by simpa using hj) (by rw [show k + 1 + j = k + (j + 1) by omega]; exact hpj) hd
          rw [show k + (j + 1) = k + 1 + j by omega]
          exact this
      · exact h4 t (fun j o'' hj hpj => ht (j + 1) o'' (by simpa using hj) (by rw [show k + (j + 1) = k + 1 + j by omega]; exact hpj))

section
variable {P : Program} {l : List Oper} {deps : List (List Nat)} {a0 : Act} {G : World → Prop} {N : Nat → World → Prop} {R : Nat → (Nat → Got) → World → Prop} {Q : Exit → Act → World → Prop}

/-- What holds while the region runs. -/
structure Held (l : List Oper) (deps : List (List Nat)) (a0 : Act) (G : World → Prop) (N : Nat → World → Prop) (R : Nat → (Nat → Got) → World → Prop) (listed : Array Bool) (x : Nat → Got) (a : Act) (w : World) : Prop where
  size : listed.size = l.length
  g : G w
  nn : ∀ j, j < l.length → ¬ listed.getD j false = true → N j w
  r : ∀ j, listed.getD j false = true → R j x w
  lo : ∀ j, listed.getD j false = true → (x j).lo ≤ (x j).hi ∧ (x j).hi ≤ w.heap.size
  dis : ∀ j k, listed.getD j false = true → listed.getD k false = true → j ≠ k → (x j).hi ≤ (x k).lo ∨ (x k).hi ≤ (x j).lo
  shut : ∀ j k, listed.getD j false = true → k ∈ depsOf deps j → listed.getD k false = true
  defers : a.defers = a0.defers
  tsize : a.tmps.size = a0.tmps.size
  has : ∀ (j : Nat) (o : Oper) (d : Tmp), l[j]? = some o → o.dst = some d → listed.getD j false = true → a.tmps[d]? = some (x j).v
  not : ∀ t, (∀ (j : Nat) (o : Oper), l[j]? = some o → listed.getD j false = true → o.dst ≠ some t) → a.tmps[t]? = a0.tmps[t]?

theorem upon_of {o : Oper} {a A : Act} {K : Value → List Deferred → World → Prop} {Nx : Act → World → Prop} {r : Result Next} (hsz : ∀ d, o.dst = some d → d < A.tmps.size)
    (hdf : ∀ v d w', K v d w' → d = A.defers)
    (hK : ∀ v w', K (match o.dst with | some _ => v | none => undef) A.defers w' → Nx (a.put o.dst v) w') (h : o.upon P A (fun a' w' => K (gotOf o a') a'.defers w') (fun _ _ _ => False) r) : o.upon P a Nx Q r := by
  have hg : ∀ v, gotOf o (A.put o.dst v) = (match o.dst with | some _ => v | none => undef) := fun v => by
    unfold gotOf
    cases e : o.dst with
    | none => rfl
    | some d => simp [Act.put, hsz d e]
  have hp : ∀ v, (A.put o.dst v).defers = A.defers := fun v => by cases e : o.dst <;> simp [Act.put]
  cases r with
  | ok n w' =>
    cases n <;> simp only [Oper.upon] at h ⊢
    case value v => exact hK _ _ (by rw [← hg v, ← hp v]; exact h)
    case skip => exact hK _ _ (by rw [← hg undef, ← hp undef]; exact h)
    case defer d =>
      have := hdf _ _ _ h
      exfalso
      have e2 : ∀ v, (({ A with defers := d :: A.defers } : Act).put o.dst v).defers = d :: A.defers := fun v => by cases e : o.dst <;> simp [Act.put]
      rw [e2] at this
      have := congrArg List.length this
      simp at this
    case enter f args =>
      refine Calls.mono h fun e w'' he => ?_
      cases e with
      | returned v => exact hK _ _ (by rw [← hg v, ← hp v]; exact he)
      | panicked c => exact he.elim
      | outgrown => obtain ⟨_, _, h⟩ := he; exact h.elim
    case row row args => exact Rows.mono h fun v w'' he => hK _ _ (by rw [← hg v, ← hp v]; exact he)
  | halt z w' => cases z <;> simp only [Oper.upon] at h ⊢

theorem getD_set_same {listed : Array Bool} {i : Nat} (h : i < listed.size) : (listed.setIfInBounds i true).getD i false = true := by
  simp [h]

/-- One operation. -/
theorem held_step (hB : RelOk l deps a0.tmps.size) (hloc : ∀ j x x' w, (∀ k, k = j ∨ k ∈ depsOf deps j → x k = x' k) → R j x w → R j x' w)
    {listed : Array Bool} {x : Nat → Got} {a : Act} {w : World} (h : Held l deps a0 G N R listed x a w) {i : Nat} {o : Oper} (ho : l[i]? = some o) (hun : listed.getD i true = false)
    (hrd : ∀ e ∈ o.after, Region.binds .any e = true → listed.getD e.on false = true) (hs : stepAt P l deps a0 G N R i o) :
    wpOp P l.toArray Q i (fun a' w' => ∃ x', Held l deps a0 G N R (listed.setIfInBounds i true) x' a' w') a w := by
  have hil : i < l.length := (List.getElem?_eq_some_iff.1 ho).1
  have hils : i < listed.size := by rw [h.size]; exact hil
  have hif : listed.getD i false = false := by
    simp only [Array.getD_eq_getD_getElem?, Array.getElem?_eq_getElem hils, Option.getD_some] at hun ⊢
    exact hun
  have hne : ∀ j, listed.getD j false = true → j ≠ i := fun j hj e => by rw [e, hif] at hj; cases hj
  have hdl : ∀ j, j ∈ depsOf deps i → listed.getD j false = true := fun j hj => by
    obtain ⟨e, he, hb, hor⟩ := hB.waits i o j ho hj
    rcases hor with rfl | hm
    · exact hrd e he hb
    · exact h.shut _ _ (hrd e he hb) hm
  obtain ⟨f1, f2, f3, f4⟩ := putsFrom_spec (fun k => (depsOf deps i).contains k) l 0 x a0 hB.apart hB.inB
  simp only [Nat.zero_add] at f3 f4
  have hev : ∀ t, t ∈ o.looksAt l.toArray → a.tmps[t]? = (putsFrom (fun k => (depsOf deps i).contains k) 0 l x a0).tmps[t]? := fun t ht => by
    by_cases hex : ∃ (j : Nat) (o' : Oper), l[j]? = some o' ∧ o'.dst = some t
    · obtain ⟨j, o', hj, hd⟩ := hex
      have huniq : ∀ (j' : Nat) (o'' : Oper), l[j']? = some o'' → o''.dst = some t → j' = j := fun j' o'' hj' hd' => hB.apart j j' o' o'' t hj hj' hd hd'
      by_cases hdep : j ∈ depsOf deps i
      · rw [f3 j o' t hj (List.contains_iff_mem.2 hdep) hd, h.has j o' t hj hd (hdl j hdep)]
      · have hnl : ¬ listed.getD j false = true := fun hl => by
          rcases hB.looks i o t j o' ho ht hj hd with h1 | h1 | h1
          · exact hdep h1
          · have := h.shut j i hl h1
            rw [hif] at this
            cases this
          · rw [h1, hif] at hl
            cases hl
        rw [f4 t (fun j' o'' hj' hp hd' => hdep (by rw [← huniq j' o'' hj' hd']; exact List.contains_iff_mem.1 hp)), h.not t (fun j' o'' hj' hl hd' => hnl (by rw [← huniq j' o'' hj' hd']; exact hl))]
    · rw [f4 t (fun j o' hj _ hd => hex ⟨j, o', hj, hd⟩), h.not t (fun j o' hj _ hd => hex ⟨j, o', hj, hd⟩)]
  have hexec : execOp a.eval o = execOp (putsFrom (fun k => (depsOf deps i).contains k) 0 l x a0).eval o := execOp_congr o (fun cs b => hB.plain i o cs b ho) fun y hy => by
    cases y with
    | tmp t =>
      have := hev t (List.mem_append_left _ (List.mem_filterMap.2 ⟨.tmp t, by simpa using hy, rfl⟩))
      simp only [Act.eval, Array.getD_eq_getD_getElem?, this]
    | _ => rfl
  have hwant : Region.wanted o (yielded l.toArray a.tmps) = Region.wanted o (yielded l.toArray (putsFrom (fun k => (depsOf deps i).contains k) 0 l x a0).tmps) := by
    unfold Region.wanted
    cases hg : o.guard with
    | none => rfl
    | some gw =>
      obtain ⟨g, want⟩ := gw
      have hy : yielded l.toArray a.tmps g = yielded l.toArray (putsFrom (fun k => (depsOf deps i).contains k) 0 l x a0).tmps g := by
        unfold yielded
        cases ht : (l.toArray[g]?).bind (·.dst) with
        | none => rfl
        | some t =>
          have := hev t (by unfold Oper.looksAt; rw [hg]; exact List.mem_append_right _ (by simp only [ht]; simp))
          simp only [Option.bind_some, this]
      simp only [hy]
  -- what follows
  have next : ∀ v w', G w' → w.heap.size ≤ w'.heap.size → R i (setG x i ⟨(match o.dst with | some _ => v | none => undef), w.heap.size, w'.heap.size⟩) w' → (∀ j, j ≠ i → listed.getD j false = true → R j x w') → (∀ j, j < l.length → j ≠ i → ¬ listed.getD j false = true → N j w') →
      ∃ x', Held l deps a0 G N R (listed.setIfInBounds i true) x' (a.put o.dst v) w' := by
    intro v w' hg hsz hri hst hnn
    have hcase : ∀ j, (listed.setIfInBounds i true).getD j false = true → j = i ∨ (j ≠ i ∧ listed.getD j false = true) := fun j hj => by
      by_cases e : j = i
      · exact .inl e
      · rw [getD_set_ne false (Ne.symm e)] at hj
        exact .inr ⟨e, hj⟩
    refine ⟨setG x i ⟨(match o.dst with | some _ => v | none => undef), w.heap.size, w'.heap.size⟩, ?_⟩
    refine { size := by simpa using h.size, g := hg, nn := fun j hj hnl => ?_, r := fun j hj => ?_, lo := fun j hj => ?_, dis := fun j k hj hk hjk => ?_, shut := fun j k hj hk => ?_, defers := ?_, tsize := ?_, has := fun j o' d hj hd hlj => ?_, not := fun t ht => ?_ }
    · by_cases e : j = i
      · exact absurd (by rw [e]; exact getD_set_same hils) hnl
      · rw [getD_set_ne false (Ne.symm e)] at hnl
        exact hnn j hj e hnl
    · rcases hcase j hj with rfl | ⟨e, hj⟩
      · exact hri
      · refine hloc j x _ w' (fun k hk => ?_) (hst j e hj)
        have : k ≠ i := by
          rcases hk with rfl | hk
          · exact e
          · exact hne k (h.shut j k hj hk)
        rw [setG_other this]
    · rcases hcase j hj with rfl | ⟨e, hj⟩
      · rw [setG_same]; exact ⟨hsz, Nat.le_refl _⟩
      · rw [setG_other e]; exact ⟨(h.lo j hj).1, Nat.le_trans (h.lo j hj).2 hsz⟩
    · rcases hcase j hj with rfl | ⟨e, hj⟩
      · rcases hcase k hk with rfl | ⟨e', hk⟩
        · exact absurd rfl hjk
        · rw [setG_same, setG_other e']; exact .inr (h.lo k hk).2
      · rcases hcase k hk with e2 | ⟨e', hk⟩
        · rw [e2, setG_same, setG_other e]; exact .inl (h.lo j hj).2
        · rw [setG_other e, setG_other e']; exact h.dis j k hj hk hjk
    · rcases hcase j hj with rfl | ⟨e, hj⟩
      · exact getD_set_true (hdl k hk)
      · exact getD_set_true (h.shut j k hj hk)
    · rw [← h.defers]; cases e : o.dst <;> simp [Act.put]
    · rw [← h.tsize]; cases e : o.dst <;> simp [Act.put]
    · rcases hcase j hlj with rfl | ⟨e, hlj⟩
      · rw [ho] at hj
        cases hj
        rw [setG_same]
        simp only [hd, Act.put]
        rw [Array.getElem?_setIfInBounds_self_of_lt (by rw [h.tsize]; exact hB.inB _ _ _ ho hd)]
      · rw [setG_other e, ← h.has j o' d hj hd hlj]
        cases hod : o.dst with
        | none => rfl
        | some d' =>
          simp only [Act.put]
          exact Array.getElem?_setIfInBounds_ne (fun e' => e (hB.apart i j o o' d ho hj (by rw [hod, e']) hd))
    · rw [← h.not t (fun j o' hj hlj => ht j o' hj (getD_set_true hlj))]
      have := ht i o ho (getD_set_same hils)
      cases hod : o.dst with
      | none => rfl
      | some d' =>
        simp only [Act.put]
        exact Array.getElem?_setIfInBounds_ne (fun e' => this (by rw [hod, e']))
  have hfd : (putsFrom (fun k => (depsOf deps i).contains k) 0 l x a0).defers = a0.defers := f1
  have H := hs x w (fun j => listed.getD j false = true) (fun v d w' => d = a0.defers ∧ G w' ∧ w.heap.size ≤ w'.heap.size ∧ R i (setG x i ⟨v, w.heap.size, w'.heap.size⟩) w' ∧ (∀ j, j ≠ i → listed.getD j false = true → R j x w') ∧ ∀ j, j < l.length → j ≠ i → ¬ listed.getD j false = true → N j w')
    h.g hdl h.r h.lo h.dis h.shut (by rw [hif]; simp) h.nn (fun v w' h1 h2 h3 h4 h5 => ⟨rfl, h1, h2, h3, h4, h5⟩)
  unfold wpOp
  simp only [List.getElem?_toArray, ho]
  rw [hwant]
  split
  · rename_i hw
    rw [if_pos hw] at H
    refine .inl ?_
    unfold Oper.wp at H ⊢
    rw [hexec]
    refine upon_of (K := fun v d w' => d = a0.defers ∧ G w' ∧ w.heap.size ≤ w'.heap.size ∧ R i (setG x i ⟨v, w.heap.size, w'.heap.size⟩) w' ∧ (∀ j, j ≠ i → listed.getD j false = true → R j x w') ∧ ∀ j, j < l.length → j ≠ i → ¬ listed.getD j false = true → N j w') (A := putsFrom (fun k => (depsOf deps i).contains k) 0 l x a0) (fun d hd => by rw [f2]; exact hB.inB i o d ho hd) (fun v d w' hk => by rw [hfd]; exact hk.1) (fun v w' hk => next v w' hk.2.1 hk.2.2.1 hk.2.2.2.1 hk.2.2.2.2.1 hk.2.2.2.2.2) H
  · rename_i hw
    rw [if_neg (by simpa using hw)] at H
    refine next undef w H.2.1 H.2.2.1 ?_ H.2.2.2.2.1 H.2.2.2.2.2
    have := H.2.2.2.1
    cases o.dst <;> exact this

theorem held_any (hB : RelOk l deps a0.tmps.size) (hloc : ∀ j x x' w, (∀ k, k = j ∨ k ∈ depsOf deps j → x k = x' k) → R j x w → R j x' w)
    (hs : stepsFrom P l deps a0 G N R 0 l)
    (hend : ∀ (x : Nat → Got) (w : World), G w → (∀ j, j < l.length → R j x w) → (∀ j, j < l.length → (x j).lo ≤ (x j).hi ∧ (x j).hi ≤ w.heap.size) → (∀ j k, j < l.length → k < l.length → j ≠ k → (x j).hi ≤ (x k).lo ∨ (x k).hi ≤ (x j).lo) → Q .normal (putsFrom (fun _ => true) 0 l x a0) w) :
    ∀ (fuel : Nat) (listed : Array Bool) (x : Nat → Got) (a : Act) (w : World), listed.countP (fun b => !b) ≤ fuel → Held l deps a0 G N R listed x a w → wpAny P .any l.toArray Q fuel listed a w := by
  have done : ∀ (listed : Array Bool) (x : Nat → Got) (a : Act) (w : World), Held l deps a0 G N R listed x a w → Region.ready .any l.toArray listed = [] → Q .normal a w := by
    intro listed x a w h hr
    have hall : ∀ m, m < l.length → listed.getD m false = true := by
      intro m
      induction m using Nat.strongRecOn with
      | _ m ih =>
        intro hm
        by_cases hb : listed.getD m false = true
        · exact hb
        · exfalso
          have hms : m < listed.size := by rw [h.size]; exact hm
          have : m ∈ Region.ready .any l.toArray listed := mem_ready.2 ⟨by
            simp only [Array.getD_eq_getD_getElem?, Array.getElem?_eq_getElem hms, Option.getD_some] at hb ⊢
            simpa using hb, l[m], by simp [hm], fun e he hbi => by
              have := hB.back m l[m] e (by simp [hm]) he hbi
              exact ih e.on this (by omega)⟩
          rw [hr] at this
          cases this
    obtain ⟨f1, f2, f3, f4⟩ := putsFrom_spec (fun _ => true) l 0 x a0 hB.apart hB.inB
    simp only [Nat.zero_add] at f3
    have e : a = putsFrom (fun _ => true) 0 l x a0 := by
      have e1 : a.defers = (putsFrom (fun _ => true) 0 l x a0).defers := h.defers.trans f1.symm
      have e2 : a.tmps = (putsFrom (fun _ => true) 0 l x a0).tmps := by
        apply Array.ext_getElem?
        intro t
        by_cases hex : ∃ (j : Nat) (o' : Oper), l[j]? = some o' ∧ o'.dst = some t
        · obtain ⟨j, o', hj, hd⟩ := hex
          rw [f3 j o' t hj trivial hd, h.has j o' t hj hd (hall j (List.getElem?_eq_some_iff.1 hj).1)]
        · rw [f4 t (fun j o' hj _ hd => hex ⟨j, o', hj, hd⟩), h.not t (fun j o' hj _ hd => hex ⟨j, o', hj, hd⟩)]
      cases a
      generalize putsFrom (fun _ => true) 0 l x a0 = A at *
      cases A
      simp_all
    rw [e]
    exact hend x w h.g (fun j hj => h.r j (hall j hj)) (fun j hj => h.lo j (hall j hj)) (fun j k hj hk => h.dis j k (hall j hj) (hall k hk))
  intro fuel
  induction fuel with
  | zero =>
    intro listed x a w hc h
    have hr : Region.ready .any l.toArray listed = [] := by
      cases hr : Region.ready .any l.toArray listed with
      | nil => rfl
      | cons i rs =>
        exfalso
        obtain ⟨hun, o, ho, -⟩ := mem_ready.1 (by rw [hr]; exact List.mem_cons_self : i ∈ Region.ready .any l.toArray listed)
        have hils : i < listed.size := by
          rcases Nat.lt_or_ge i listed.size with h' | h'
          · exact h'
          · simp [Array.getElem?_eq_none h'] at hun
        have hb : listed[i] = false := by
          simp only [Array.getD_eq_getD_getElem?, Array.getElem?_eq_getElem hils, Option.getD_some] at hun
          exact hun
        have : 0 < listed.countP (fun b => !b) := Array.countP_pos_iff.2 ⟨listed[i], Array.getElem_mem hils, by simp [hb]⟩
        omega
    exact ⟨hr, done listed x a w h hr⟩
  | succ fuel ih =>
    intro listed x a w hc h
    refine ⟨done listed x a w h, fun i hi => ?_⟩
    obtain ⟨hun, o, ho, hall⟩ := mem_ready.1 hi
    have hil : l[i]? = some o := by simpa using ho
    have hstep := stepsFrom_get l 0 hs i o hil
    rw [Nat.zero_add] at hstep
    refine wpOp_mono (fun a' w' ⟨x', h'⟩ => ih _ x' a' w' ?_ h') (held_step hB hloc h hil hun hall hstep)
    have hils : i < listed.size := by rw [h.size]; exact (List.getElem?_eq_some_iff.1 hil).1
    have hb : listed[i] = false := by
      simp only [Array.getD_eq_getD_getElem?, Array.getElem?_eq_getElem hils, Option.getD_some] at hun
      exact hun
    rw [show listed.setIfInBounds i true = listed.set i true hils from by unfold Array.setIfInBounds; rw [dif_pos hils], Array.countP_set]
    simp only [hb]
    have : 0 < listed.countP (fun b => !b) := Array.countP_pos_iff.2 ⟨listed[i], Array.getElem_mem hils, by simp [hb]⟩
    simp
    omega

/-- **A region that draws its order, by one relation.** -/
theorem wp_region_rel {id : Nat} {w : World} (hm : P.follows .mixedOrders = true) (deps : List (List Nat)) (G : World → Prop) (N : Nat → World → Prop) (R : Nat → (Nat → Got) → World → Prop) (hB : relB l deps a0.tmps.size = true)
    (hloc : ∀ j x x' w, (∀ k, k = j ∨ k ∈ depsOf deps j → x k = x' k) → R j x w → R j x' w) (hg : G w.drew) (hn : ∀ j, j < l.length → N j w.drew)
    (hs : stepsFrom P l deps a0 G N R 0 l)
    (hend : ∀ (x : Nat → Got) (w : World), G w → (∀ j, j < l.length → R j x w) → (∀ j, j < l.length → (x j).lo ≤ (x j).hi ∧ (x j).hi ≤ w.heap.size) → (∀ j k, j < l.length → k < l.length → j ≠ k → (x j).hi ≤ (x k).lo ∨ (x k).hi ≤ (x j).lo) → Q .normal (putsFrom (fun _ => true) 0 l x a0) w) :
    (Code.region id l.toArray true).wp P Q a0 w := by
  refine wp_region_any hm (held_any (relOk hB) hloc hs hend _ _ (fun _ => ⟨undef, 0, 0⟩) _ _ ?_ ?_)
  · refine Nat.le_trans Array.countP_le_size ?_
    simp
  · have hf : ∀ j, (Array.replicate l.toArray.size false).getD j false = true → False := fun j hj => by
      simp [Array.getElem?_replicate] at hj
      split at hj <;> simp at hj
    exact { size := by simp, g := hg, nn := fun j hj _ => hn j hj, r := fun j hj => (hf j hj).elim, lo := fun j hj => (hf j hj).elim, dis := fun j k hj => (hf j hj).elim, shut := fun j k hj => (hf j hj).elim, defers := rfl, tsize := rfl, has := fun j o d _ _ hj => (hf j hj).elim, not := fun t _ => rfl }

end
end Go.Proofs.YtkmpobmpencefaaDoor
