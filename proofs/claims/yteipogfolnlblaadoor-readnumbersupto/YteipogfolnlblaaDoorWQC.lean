/-
  What is proved here: a region that draws its order of evaluation, by one relation: what each operation gives, said of its value and of the world, as long as no other operation of the region turns it. a region that draws its order of evaluation, whose operations lay new variables, store into these or into older ones once, and else only lay memory: by what each operation gives. num.Cmp tells which of two numbers is less. what the regions of package num share: rows in new memory that lie within the blocks that an operation laid; num.divide by any number. a number's decimal text is one. tandemlaw02.awake answers true: the document's own examples of a division downwards and of a sum. a number in new memory, said by its value. num.product: the product of two and more numbers with their signs. num.Mul of two numbers, num.Neg and num.Sub. the calls of package num and of its statements, said by the values of the numbers alone.
-/
import Derived.Orders
import Derived.Laws.World
import Derived.Test.YteipogfolnlblaaDoorWQB
import Derived.Deep.RegionHeld3
import Derived.Deep.QuietTactic
import Derived.Test.YteipogfolnlblaaDoorWQA
import Derived.BigQuiet
import Derived.Deep.RegionWith
namespace Go.Proofs.YteipogfolnlblaaDoor
open Go Go.RowKit
/-- What an operation gave: its value, and the blocks that were laid while it ran: from lo on, below hi. -/
structure Got where
  v : Value
  lo : Nat
  hi : Nat

def depsOf (deps : List (List Nat)) (i : Nat) : List Nat := deps.getD i []

structure RelOk (l : List Oper) (deps : List (List Nat)) (sz : Nat) : Prop where
  inB : ∀ (i : Nat) (o : Oper) (d : Tmp), l[i]? = some o → o.dst = some d → d < sz
  apart : ∀ (i j : Nat) (o o' : Oper) (d : Tmp), l[i]? = some o → l[j]? = some o' → o.dst = some d → o'.dst = some d → j = i
  looks : ∀ (i : Nat) (o : Oper) (t : Tmp) (j : Nat) (o' : Oper), l[i]? = some o → t ∈ o.looksAt l.toArray → l[j]? = some o' → o'.dst = some t → j ∈ depsOf deps i ∨ i ∈ depsOf deps j ∨ j = i
  waits : ∀ (i : Nat) (o : Oper) (j : Nat), l[i]? = some o → j ∈ depsOf deps i → ∃ e ∈ o.after, Region.binds .any e = true ∧ (e.on = j ∨ j ∈ depsOf deps e.on)
  back : ∀ (i : Nat) (o : Oper) (e : Edge), l[i]? = some o → e ∈ o.after → Region.binds .any e = true → e.on < i
  plain : ∀ (i : Nat) (o : Oper) (cs : Array SelectCase) (b : Bool), l[i]? = some o → o.op ≠ .select cs b

section
variable {P : Program} {l : List Oper} {deps : List (List Nat)} {a0 : Act} {G : World → Prop} {N : Nat → World → Prop} {R : Nat → (Nat → Got) → World → Prop} {Q : Exit → Act → World → Prop}
/-- What holds while the region runs. -/
structure Held (l : List Oper) (deps : List (List Nat)) (a0 : Act) (G : World → Prop) (N : Nat → World → Prop) (R : Nat → (Nat → Got) → World → Prop) (listed : Array Bool) (x : Nat → Got) (a : Act) (w : World) : Prop where
  size : listed.size = l.length
  g : G w
  nn : ∀ j, j < l.length → ¬ listed.getD j false = true → N j w
  r : ∀ j, listed.getD j false = true → R j x w
  lo : ∀ j, listed.getD j false = true → (x j).lo ≤ (x j).hi ∧ (x j).hi ≤ w.heap.size
  dis : ∀ j k, listed.getD j false = true → listed.getD k false = true → j ≠ k → (x j).hi ≤ (x k).lo ∨ (x k).hi ≤ (x j).lo
  shut : ∀ j k, listed.getD j false = true → k ∈ depsOf deps j → listed.getD k false = true
  defers : a.defers = a0.defers
  tsize : a.tmps.size = a0.tmps.size
  has : ∀ (j : Nat) (o : Oper) (d : Tmp), l[j]? = some o → o.dst = some d → listed.getD j false = true → a.tmps[d]? = some (x j).v
  not : ∀ t, (∀ (j : Nat) (o : Oper), l[j]? = some o → listed.getD j false = true → o.dst ≠ some t) → a.tmps[t]? = a0.tmps[t]?

end
/-- What an operation gives: a value, of which p holds (p may look at what the operations ds gave, and at the blocks that were laid while it ran); or a new variable of n cells; or nothing: it stores what operation src gave into the variable that operation bx laid; or into the variable at block g, which was there ahead of the region. -/
abbrev Knd := Sum (List Nat × (World → Got → List Value → Prop)) (Sum (TypeId × Nat) (Sum (Nat × Nat × TypeId × Nat) (Nat × Nat × TypeId × Nat)))

def Knd.holds (wb : World) (k : Knd) (j : Nat) (x : Nat → Got) (w : World) : Prop :=
  match k with
  | .inl (ds, p) => p w (x j) (ds.map fun i => (x i).v)
  | .inr (.inl (E, n)) => (x j).v = .pointer (some ⟨(x j).lo, 0, none⟩) ∧ (x j).lo < (x j).hi ∧ wb.heap.size ≤ (x j).lo ∧ ∃ cs : Array Value, cs.size = n ∧ w.heap[(x j).lo]? = some (.cells cs E (0, 0))
  | .inr (.inr (.inl (bx, src, E, n))) => ∃ cs : Array Value, cs.size = n ∧ (x src).v = .agg cs ∧ w.heap[(x bx).lo]? = some (.cells cs E (0, 0))
  | .inr (.inr (.inr (g, src, E, n))) => ∃ cs : Array Value, cs.size = n ∧ (x src).v = .agg cs ∧ w.heap[g]? = some (.cells cs E (0, 0))

def Knd.Stable : Knd → Prop
  | .inl (_, p) => ∀ w w' g vs, (∀ b, g.lo ≤ b → b < g.hi → w'.heap[b]? = w.heap[b]?) → p w g vs → p w' g vs
  | _ => True

def AllStable : List Knd → Prop
  | [] => True
  | k :: ks => Knd.Stable k ∧ AllStable ks

theorem AllStable.get : ∀ {ks : List Knd}, AllStable ks → ∀ (j : Nat) (k : Knd), ks[j]? = some k → Knd.Stable k
  | _ :: _, h, 0, _, e => by cases e; exact h.1
  | _ :: _, h, j + 1, k, e => AllStable.get h.2 j k (by simpa using e)

/-- The older variable that is stored into. -/
def oldG : Knd → Option Nat
  | .inr (.inr (.inr (g, _, _, _))) => some g
  | _ => none

/-- Older variables: from a on, below b, each stored into once. -/
def OldsIn (a b : Nat) : List Knd → Prop
  | [] => True
  | k :: ks => (match oldG k with | some g => a ≤ g ∧ g < b ∧ ∀ k' ∈ ks, oldG k' ≠ some g | none => True) ∧ OldsIn a b ks

theorem OldsIn.get {a b : Nat} : ∀ {ks : List Knd}, OldsIn a b ks → ∀ (j : Nat) (k : Knd) (g : Nat), ks[j]? = some k → oldG k = some g → a ≤ g ∧ g < b
  | k :: _, h, 0, k', g, e, eg => by
    cases e
    have := h.1
    rw [eg] at this
    exact ⟨this.1, this.2.1⟩
  | _ :: _, h, j + 1, k, g, e, eg => OldsIn.get h.2 j k g (by simpa using e) eg

/-- Nothing but block g has turned. -/
structure Turn (g : Nat) (w w' : World) : Prop where
  os : w'.os = w.os
  tape : w'.tape = w.tape
  output : w'.output = w.output
  size : w'.heap.size = w.heap.size
  block : ∀ b, b ≠ g → w'.heap[b]? = w.heap[b]?

theorem Turn.up {g : Nat} {a w w' : World} (t : Turn g w w') (u : Up a w) (hg : a.heap.size ≤ g) : Up a w' :=
  ⟨t.os.trans u.os, t.tape.trans u.tape, t.output.trans u.output, by rw [t.size]; exact u.size, fun k hk => (t.block k (by omega)).trans (u.block k hk)⟩

theorem Turn.trans {g : Nat} {a b c : World} (h : Turn g a b) (k : Turn g b c) : Turn g a c :=
  ⟨k.os.trans h.os, k.tape.trans h.tape, k.output.trans h.output, k.size.trans h.size, fun i hi => (k.block i hi).trans (h.block i hi)⟩

/-- Of what was there ahead of the region nothing has turned but the older variables that are stored into. -/
structure Since (wb : World) (ks : List Knd) (w : World) : Prop where
  os : w.os = wb.os
  tape : w.tape = wb.tape
  output : w.output = wb.output
  size : wb.heap.size ≤ w.heap.size
  rest : ∀ b, b < wb.heap.size → (∀ k ∈ ks, oldG k ≠ some b) → w.heap[b]? = wb.heap[b]?

theorem Since.up {wf wb w : World} {ks : List Knd} (h : Since wb ks w) (u : Up wf wb) (ho : OldsIn wf.heap.size wb.heap.size ks) : Up wf w :=
  ⟨h.os.trans u.os, h.tape.trans u.tape, h.output.trans u.output, Nat.le_trans u.size h.size, fun b hb => (h.rest b (Nat.lt_of_lt_of_le hb u.size) (fun k hk e => by
    obtain ⟨j, hj⟩ := List.getElem?_of_mem hk
    have := (ho.get j k b hj e).1
    omega)).trans (u.block b hb)⟩

/-- Block b is none of the older variables that are stored into. -/
def NotOld (b : Nat) : List Knd → Prop
  | [] => True
  | k :: ks => (match oldG k with | some g => b ≠ g | none => True) ∧ NotOld b ks

theorem NotOld.get {b : Nat} : ∀ {ks : List Knd}, NotOld b ks → ∀ k ∈ ks, oldG k ≠ some b
  | k0 :: _, h, k, hk, e => by
    rcases List.mem_cons.1 hk with rfl | hk
    · have := h.1
      rw [e] at this
      exact this rfl
    · exact NotOld.get h.2 k hk e

theorem Since.at {wb w : World} {ks : List Knd} (h : Since wb ks w) {b : Nat} {o : Obj} (hb : wb.heap[b]? = some o) (hn : NotOld b ks) : w.heap[b]? = some o :=
  (h.rest b (Array.getElem?_eq_some_iff.1 hb).1 hn.get).trans hb

/-- The older variables that are stored into are no rows of limbs. -/
def OldTyped (wb : World) (U : TypeId) : List Knd → Prop
  | [] => True
  | k :: ks => (match oldG k with | some g => ∃ cs E, wb.heap[g]? = some (.cells cs E (0, 0)) ∧ E ≠ U | none => True) ∧ OldTyped wb U ks

theorem OldTyped.get {wb : World} {U : TypeId} : ∀ {ks : List Knd}, OldTyped wb U ks → ∀ k ∈ ks, ∀ g, oldG k = some g → ∃ cs E, wb.heap[g]? = some (.cells cs E (0, 0)) ∧ E ≠ U
  | k0 :: _, h, k, hk, g, e => by
    rcases List.mem_cons.1 hk with rfl | hk
    · have := h.1
      rw [e] at this
      exact this
    · exact OldTyped.get h.2 k hk g e

/-- A goal that no tactic looks into till it is opened. -/
structure Veil (p : Prop) : Prop where
  out : p

/-- What num.work answers. -/
def Wkd (a : Value) (b : Bool) (n : Nat) (f : Nat → Nat) (v : Value) : Prop := ∃ b' m, (∀ w0, Nm w0 a b n f → Wk w0 v b' m f) ∧ CanZ b' f m ∧ m ≤ n ∧ sgn b' (num 4294967296 f m) = sgn b (num 4294967296 f n)

theorem Wkd.cells {a v : Value} {b : Bool} {n : Nat} {f : Nat → Nat} {w : World} {cs : Array Value} (h : Wkd a b n f v) (ha : Nm w a b n f) (e : v = .agg cs) :
    ∃ ao' m' cap' b', cs = #[.slice ao' m' cap', .bool b'] ∧ Sl .u32 w (.slice ao' m' cap') m' f ∧ CanZ b' f m' ∧ m' ≤ n ∧ sgn b' (num 4294967296 f m') = sgn b (num 4294967296 f n) := by
  obtain ⟨b', m', h1, h2, h3, h4⟩ := h
  obtain ⟨v1, e1, s1⟩ := h1 w ha
  obtain ⟨ao1, cap1, rfl, -⟩ := id s1
  rw [e1] at e
  cases e
  exact ⟨ao1, m', cap1, b', rfl, s1, h2, h3, h4⟩

/-- A row of the call's own that lies in blocks from lo on, below hi. -/
def OwnIn (w : World) (lo hi : Nat) (v : Value) (n : Nat) (f : Nat → Nat) : Prop := Own .u32 63 w lo v n f ∧ ∀ g o l c, v = .slice (some ⟨g, o, none⟩) l c → g < hi

theorem OwnIn.of {w : World} {lo : Nat} {v : Value} {n : Nat} {f : Nat → Nat} (h : Own .u32 63 w lo v n f) : OwnIn w lo w.heap.size v n f := by
  refine ⟨h, fun g o l c e => ?_⟩
  rcases h with ⟨rfl, -⟩ | ⟨g', cap, rfl, -, -, h3⟩
  · cases e
  · cases e
    obtain ⟨cur, hb, -⟩ := h3
    exact (Array.getElem?_eq_some_iff.1 hb).1

theorem OwnIn.keep {w w' : World} {lo hi : Nat} {v : Value} {n : Nat} {f : Nat → Nat} (h : OwnIn w lo hi v n f) (hb : ∀ b, lo ≤ b → b < hi → w'.heap[b]? = w.heap[b]?) : OwnIn w' lo hi v n f := by
  obtain ⟨h1, h2⟩ := h
  refine ⟨?_, h2⟩
  rcases h1 with ⟨rfl, rfl⟩ | ⟨g', cap, rfl, a1, a2, a3⟩
  · exact .inl ⟨rfl, rfl⟩
  · exact .inr ⟨g', cap, rfl, a1, a2, a3.block (hb g' a1 (h2 g' 0 n cap rfl))⟩

theorem OwnIn.sl {w : World} {lo hi : Nat} {v : Value} {n : Nat} {f : Nat → Nat} (h : OwnIn w lo hi v n f) : Sl .u32 w v n f := h.1.sl

/-- A row is no variable of another type. -/
theorem Own.turn {w w' : World} {base g : Nat} {v : Value} {n : Nat} {f : Nat → Nat} {cs : Array Value} {E : TypeId} (h : Own .u32 63 w base v n f) (t : Turn g w w') (hb : w.heap[g]? = some (.cells cs E (0, 0))) (hE : E ≠ 63) : Own .u32 63 w' base v n f := by
  rcases h with ⟨rfl, rfl⟩ | ⟨g', cap, rfl, a1, a2, a3⟩
  · exact .inl ⟨rfl, rfl⟩
  · refine .inr ⟨g', cap, rfl, a1, a2, a3.block (t.block g' ?_)⟩
    rintro rfl
    obtain ⟨cur, hc, -⟩ := a3
    rw [hb] at hc
    cases hc
    exact hE rfl

/-- The rest of a division; 0, where there is none. -/
def rz (X Y : Int) : Int := if Y = 0 then 0 else Int.tmod X Y

/-- What num.divide answers. -/
def DivR (X Y : Int) (ok : Bool) (nb mb : Nat) (w : World) (lo hi : Nat) (v : Value) : Prop :=
  ∃ vq vr bq br nq nr fq fr, v = .tuple #[.agg #[vq, .bool bq], .agg #[vr, .bool br], .bool ok] ∧ OwnIn w lo hi vq nq fq ∧ OwnIn w lo hi vr nr fr ∧ CanZ bq fq nq ∧ CanZ br fr nr ∧ nq ≤ nb ∧ nr ≤ mb ∧
    sgn bq (num 4294967296 fq nq) = Int.tdiv X Y ∧ sgn br (num 4294967296 fr nr) = rz X Y

theorem DivR.keep {X Y : Int} {ok : Bool} {nb mb : Nat} {w w' : World} {lo hi : Nat} {v : Value} (h : DivR X Y ok nb mb w lo hi v) (hb : ∀ b, lo ≤ b → b < hi → w'.heap[b]? = w.heap[b]?) : DivR X Y ok nb mb w' lo hi v := by
  obtain ⟨vq, vr, bq, br, nq, nr, fq, fr, e, o1, o2, r⟩ := h
  exact ⟨vq, vr, bq, br, nq, nr, fq, fr, e, o1.keep hb, o2.keep hb, r⟩

/-- The number a, in blocks from lo on, below hi: its sign and its limbs. -/
def CopIn (b : Bool) (n : Nat) (f : Nat → Nat) (w : World) (lo hi : Nat) (a : Value) : Prop := ∃ v, a = .agg #[.bool b, v] ∧ OwnIn w lo hi v n f

/-- The canonical number a in blocks from lo on, below hi: its value is X, it has at most M limbs. -/
def NumIn (X : Int) (M : Nat) (w : World) (lo hi : Nat) (a : Value) : Prop := ∃ b n f, CopIn b n f w lo hi a ∧ CanZ b f n ∧ n ≤ M ∧ sgn b (num 4294967296 f n) = X

theorem CopIn.keep {b : Bool} {n : Nat} {f : Nat → Nat} {w w' : World} {lo hi : Nat} {a : Value} (h : CopIn b n f w lo hi a) (hb : ∀ b, lo ≤ b → b < hi → w'.heap[b]? = w.heap[b]?) : CopIn b n f w' lo hi a := by
  obtain ⟨v, e, o⟩ := h
  exact ⟨v, e, o.keep hb⟩

theorem NumIn.keep {X : Int} {M : Nat} {w w' : World} {lo hi : Nat} {a : Value} (h : NumIn X M w lo hi a) (hb : ∀ b, lo ≤ b → b < hi → w'.heap[b]? = w.heap[b]?) : NumIn X M w' lo hi a := by
  obtain ⟨b, n, f, c, r⟩ := h
  exact ⟨b, n, f, c.keep hb, r⟩

theorem CopIn.of {b : Bool} {n : Nat} {f : Nat → Nat} {w : World} {lo : Nat} {a : Value} (h : OwnN w lo a b n f) : CopIn b n f w lo w.heap.size a := by
  obtain ⟨v, e, o⟩ := h
  exact ⟨v, e, OwnIn.of o⟩

theorem CopIn.nm {b : Bool} {n : Nat} {f : Nat → Nat} {w : World} {lo hi : Nat} {a : Value} (h : CopIn b n f w lo hi a) : Nm w a b n f := by
  obtain ⟨v, e, o⟩ := h
  exact ⟨v, e, o.sl⟩

theorem Since.cell {wb w : World} {ks : List Knd} (h : Since wb ks w) {b o : Nat} (hb : b < wb.heap.size) (hn : NotOld b ks) : w.cell? ⟨b, o, none⟩ = wb.cell? ⟨b, o, none⟩ :=
  World.cell?_of_block (a := ⟨b, o, none⟩) (h.rest b hb hn.get)

/-- How a function that answers one number ends. -/
def NumEnd (X : Int) (M : Nat) (w : World) (e : Ending) (w' : World) : Prop := ∃ a b n f, e = .returned a ∧ OwnN w' w.heap.size a b n f ∧ Up w w' ∧ CanZ b f n ∧ n ≤ M ∧ sgn b (num 4294967296 f n) = X

/-- The number a in blocks from lo on, below hi, canonical or not: its value is X, it has at most M limbs. -/
def NumD (X : Int) (M : Nat) (w : World) (lo hi : Nat) (a : Value) : Prop := ∃ b n f, CopIn b n f w lo hi a ∧ (∀ i, i < n → f i < 4294967296) ∧ n ≤ M ∧ sgn b (num 4294967296 f n) = X

/-- A number that can be read. -/
def RdD (X : Int) (M : Nat) (w : World) (a : Value) : Prop := ∃ b n f, Nm w a b n f ∧ (∀ i, i < n → f i < 4294967296) ∧ n ≤ M ∧ sgn b (num 4294967296 f n) = X

/-- A canonical number that can be read. -/
def RdC (X : Int) (M : Nat) (w : World) (a : Value) : Prop := ∃ b n f, Nm w a b n f ∧ CanZ b f n ∧ n ≤ M ∧ sgn b (num 4294967296 f n) = X

theorem NumD.keep {X : Int} {M : Nat} {w w' : World} {lo hi : Nat} {a : Value} (h : NumD X M w lo hi a) (hb : ∀ b, lo ≤ b → b < hi → w'.heap[b]? = w.heap[b]?) : NumD X M w' lo hi a := by
  obtain ⟨b, n, f, c, r⟩ := h
  exact ⟨b, n, f, c.keep hb, r⟩

theorem NumD.rd {X : Int} {M M' : Nat} {w : World} {lo hi : Nat} {a : Value} (h : NumD X M w lo hi a) (hM : M ≤ M') : RdD X M' w a := by
  obtain ⟨b, n, f, c, d, l, s⟩ := h
  exact ⟨b, n, f, c.nm, d, by omega, s⟩

theorem NumIn.rd {X : Int} {M M' : Nat} {w : World} {lo hi : Nat} {a : Value} (h : NumIn X M w lo hi a) (hM : M ≤ M') : RdD X M' w a := by
  obtain ⟨b, n, f, c, d, l, s⟩ := h
  exact ⟨b, n, f, c.nm, d.1.1, by omega, s⟩

theorem RdC.rd {X : Int} {M M' : Nat} {w : World} {a : Value} (h : RdC X M w a) (hM : M ≤ M') : RdD X M' w a := by
  obtain ⟨b, n, f, c, d, l, s⟩ := h
  exact ⟨b, n, f, c, d.1.1, by omega, s⟩

theorem RdC.up {X : Int} {M : Nat} {w w' : World} {a : Value} (h : RdC X M w a) (u : Up w w') : RdC X M w' a := by
  obtain ⟨b, n, f, c, r⟩ := h
  exact ⟨b, n, f, c.up u, r⟩

theorem RdD.up {X : Int} {M : Nat} {w w' : World} {a : Value} (h : RdD X M w a) (u : Up w w') : RdD X M w' a := by
  obtain ⟨b, n, f, c, r⟩ := h
  exact ⟨b, n, f, c.up u, r⟩

/-- A number's cells. -/
theorem RdD.agg {X : Int} {M : Nat} {w : World} {a : Value} (h : RdD X M w a) : ∃ b ao n cap, a = .agg #[.bool b, .slice ao n cap] := by
  obtain ⟨b, n, f, ⟨v, rfl, s⟩, -⟩ := h
  obtain ⟨ao, cap, rfl, -⟩ := s
  exact ⟨b, ao, n, cap, rfl⟩

theorem NumEnd.fin {X : Int} {M : Nat} {w w' : World} {e : Ending} (h : NumEnd X M w e w') : ∃ v, e = .returned v ∧ NumIn X M w' w.heap.size w'.heap.size v ∧ Up w w' := by
  obtain ⟨a, b, n, f, rfl, o, u, c, l, s⟩ := h
  exact ⟨a, rfl, ⟨b, n, f, CopIn.of o, c, l, s⟩, u⟩

/-- What num.Truncate and num.Floor answer. -/
def DivsIn (Q R : Int) (ok : Bool) (M : Nat) (w : World) (lo hi : Nat) (v : Value) : Prop := ∃ aq ar, v = .tuple #[aq, ar, .bool ok] ∧ NumIn Q M w lo hi aq ∧ NumIn R M w lo hi ar

theorem DivsIn.keep {Q R : Int} {ok : Bool} {M : Nat} {w w' : World} {lo hi : Nat} {v : Value} (h : DivsIn Q R ok M w lo hi v) (hb : ∀ b, lo ≤ b → b < hi → w'.heap[b]? = w.heap[b]?) : DivsIn Q R ok M w' lo hi v := by
  obtain ⟨aq, ar, e, h1, h2⟩ := h
  exact ⟨aq, ar, e, h1.keep hb, h2.keep hb⟩

/-- Two numbers laid side by side, and one. -/
def Pair2 (w : World) (g : Got) (vs : List Value) : Prop := g.v = .slice (some ⟨g.lo, 0, none⟩) 2 2 ∧ g.lo < g.hi ∧ ∃ b1 v1 b2 v2, vs = [Value.agg #[.bool b1, v1], .agg #[.bool b2, v2]] ∧ w.heap[g.lo]? = some (.cells #[.bool b1, v1, .bool b2, v2] 24 (0, 0))

def Pair1 (w : World) (g : Got) (vs : List Value) : Prop := g.v = .slice (some ⟨g.lo, 0, none⟩) 1 1 ∧ g.lo < g.hi ∧ ∃ b1 v1, vs = [Value.agg #[.bool b1, v1]] ∧ w.heap[g.lo]? = some (.cells #[.bool b1, v1] 24 (0, 0))

theorem Pair2.keep {w w' : World} {g : Got} {vs : List Value} (h : Pair2 w g vs) (hb : ∀ b, g.lo ≤ b → b < g.hi → w'.heap[b]? = w.heap[b]?) : Pair2 w' g vs := by
  obtain ⟨h1, h2, b1, v1, b2, v2, h3, h4⟩ := h
  exact ⟨h1, h2, b1, v1, b2, v2, h3, (hb _ (Nat.le_refl _) h2).trans h4⟩

theorem Pair1.keep {w w' : World} {g : Got} {vs : List Value} (h : Pair1 w g vs) (hb : ∀ b, g.lo ≤ b → b < g.hi → w'.heap[b]? = w.heap[b]?) : Pair1 w' g vs := by
  obtain ⟨h1, h2, b1, v1, h3, h4⟩ := h
  exact ⟨h1, h2, b1, v1, h3, (hb _ (Nat.le_refl _) h2).trans h4⟩

end Go.Proofs.YteipogfolnlblaaDoor
