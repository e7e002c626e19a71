/-
  What is proved here: maps whose keys are places (two numbers): looking one up, and laying a new one; no walk.
-/
import Derived.Test.YtcefeclgehijpaaHBase
import Derived.Test.YtcefeclgehijpaaProg
import Derived.Maps.Own
import Derived.Maps.OwnOps
import Derived.Laws.StructEq
namespace Go.Proofs.Ytcefeclgehijpaa
open Go Go.RowKit

/-- A place as a key. -/
def kV (p c : Int) : Value := .agg #[.int .i64 p, .int .i64 c]
/-- An entry: the place, the block of what is kept of it, when it was laid. -/
structure PE where
  p : Int
  c : Int
  a : Nat
  born : Nat
def PE.en (e : PE) : MapEntry := { key := kV e.p e.c, val := .pointer (some ⟨e.a, 0, none⟩), born := e.born }

theorem eq_key (w : World) (p c p' c' : Int) : (Op.equal 59 (kV p c) (kV p' c')).run Try.prog w = .ok (decide (p = p' ∧ c = c')) w := by
  show (Op.equalIn 10000 _ _ _).run _ _ = _
  rw [kV, kV, run_equalIn_struct w 9999 59 _ _ (by kernel_rfl) (by kernel_rfl)]
  go_simp
  by_cases h1 : p = p' <;> by_cases h2 : c = c' <;> simp [h1, h2]

/-- The entry of a place, and where it stands. -/
def fnd (p c : Int) : List PE → Nat → Option (Nat × PE)
  | [], _ => none
  | e :: es, i => if p = e.p ∧ c = e.c then some (i, e) else fnd p c es (i + 1)

theorem run_asking (w : World) (p c : Int) : ∀ (L : List PE) (i : Nat), (Instr.findAsking 59 (kV p c) (L.map PE.en) i).run Try.prog w = .ok ((fnd p c L i).map fun x => (x.1, x.2.en.val)) w
  | [], i => by simp [Instr.findAsking, fnd]
  | e :: es, i => by
    have hk : e.en.key = kV e.p e.c := rfl
    simp only [List.map_cons, Instr.findAsking, Sem.run_bind, hk, eq_key, Result.andThen, fnd]
    by_cases h : p = e.p ∧ c = e.c
    · simp [h]
    · simp only [h, decide_false, Bool.false_eq_true, if_false]
      exact run_asking w p c es (i + 1)

theorem key_under : Try.prog.underlying 59 = some (.struct (Try.prog.fieldsOf 59)) := by kernel_rfl
theorem run_findP (w : World) (p c : Int) (L : List PE) : (Instr.findKey 59 (kV p c) (L.map PE.en)).run Try.prog w = .ok ((fnd p c L 0).map fun x => (x.1, x.2.en.val)) w := by
  unfold Instr.findKey
  simp only [Sem.run_bind, run_underlying key_under, Result.andThen]
  cases L with
  | nil => simp [Instr.findNow, fnd]
  | cons e es =>
    simp only [List.map_cons, Instr.findNow, Instr.sameNow]
    exact run_asking w p c (e :: es) 0
theorem run_checkI (w : World) (b : Bool) (n : Nat) (x : Int) : (Instr.checkKey b (n + 1) 3 (.int .i64 x)).run Try.prog w = .ok () w := by
  unfold Instr.checkKey
  go_simp
theorem run_checkP (w : World) (b : Bool) (p c : Int) : (Instr.checkKey b 10000 59 (kV p c)).run Try.prog w = .ok () w := by
  unfold Instr.checkKey kV
  simp only [Sem.run_bind, run_underlying key_under, Result.andThen]
  go_simp
  simp [run_checkI]

def MapAt (w : World) (r : Nat) (L : List PE) (clock : Nat) : Prop := w.heap[r]? = some (.map (L.map PE.en).toArray clock)

theorem look_any {w : World} {r clock : Nat} {L : List PE} (h : MapAt w r L clock) (p c : Int) (b : Bool) :
    (Instr.lookup 50 (.map (some r)) (kV p c) b).run Try.prog w = .ok (match fnd p c L 0 with
      | none => if b then .tuple #[.pointer none, .bool false] else .pointer none
      | some (_, e) => if b then .tuple #[.pointer (some ⟨e.a, 0, none⟩), .bool true] else .pointer (some ⟨e.a, 0, none⟩)) w := by
  unfold Instr.lookup
  simp only [Sem.run_bind, run_underlying Try.underlying50, MapKept.run_getObj_map h, Sem.run_pure, Result.andThen, run_checkP, run_findP]
  cases fnd p c L 0 with
  | none =>
    simp only [Option.map_none, Sem.run_bind]
    go_simp
  | some x => cases b <;> rfl

theorem update_new {w : World} {r clock : Nat} {L : List PE} (h : MapAt w r L clock) {p c : Int} (hf : fnd p c L 0 = none) (a : Nat) :
    (Instr.mapUpdate 50 (.map (some r)) (kV p c) (.pointer (some ⟨a, 0, none⟩))).run Try.prog w = .ok () { w with heap := w.heap.setIfInBounds r (.map ((L ++ [PE.mk p c a clock]).map PE.en).toArray (clock + 1)) } := by
  unfold Instr.mapUpdate
  simp only [Sem.run_bind, run_underlying Try.underlying50, MapKept.run_getObj_map h, Result.andThen, run_checkP, run_findP, hf, Option.map_none]
  rw [MapKept.run_setObj_map _ h]
  simp [PE.en]

end Go.Proofs.Ytcefeclgehijpaa
