/-
  What is proved here: package strings' Builder, as it lies in package show's teller: copyCheck, WriteString, String; show's put.
-/
import Derived.Test.YtfplplobhmacoaaGreatDoorSData
import Derived.Lib.AppendStr
import Derived.Lib.UnsafeStr
import Derived.Lib.Walk
import Derived.Lib.Builder
import Derived.Laws.Externs
namespace Go.Proofs.YtfplplobhmacoaaGreatDoor
open Go Go.RowKit

theorem infoU8 : (Tryz.prog.info? 5).map (fun i => (i.zero, i.size, i.bytes)) = some (some (.int .u8 0), 1, 1) := by kernel_rfl
theorem sizeBuilder : (Tryz.prog.info? 55).map (·.size) = some 2 := by kernel_rfl
theorem liesBuilder : liesAt Tryz.prog Tryz.prog.depth 58 (3 / Tryz.prog.cellsOf 58) 0 55 1 = true := by kernel_rfl

/-- A teller: what it has told (out), its rows' slice r. -/
structure TellAt (B tb : Nat) (out : List UInt8) (r : Value) (w : World) : Prop where
  hB : B ≤ tb
  blk : ∃ p v, w.heap[tb]? = some (.cells #[p, v, r] 58 (0, 0)) ∧ (p = .pointer none ∨ p = .pointer (some ⟨tb, 0, none⟩)) ∧ w.ownsRow B 5 1 v out.length (Lib.byteCells out)

/-- Rows that are no bytes' stay. -/
def Kp (tb : Nat) (w w' : World) : Prop := w.heap.size ≤ w'.heap.size ∧ ∀ (k : Nat) (c : Array Value) (e : TypeId) f, k ≠ tb → e ≠ 5 → w.heap[k]? = some (.cells c e f) → w'.heap[k]? = some (.cells c e f)
theorem Kp.refl (tb : Nat) (w : World) : Kp tb w w := ⟨Nat.le_refl _, fun _ _ _ _ _ _ h => h⟩
theorem Kp.trans {tb : Nat} {a b c : World} (h : Kp tb a b) (k : Kp tb b c) : Kp tb a c := ⟨Nat.le_trans h.1 k.1, fun i x e f h1 h2 h3 => k.2 i x e f h1 h2 (h.2 i x e f h1 h2 h3)⟩
theorem Kp.alloc {tb : Nat} {a b : World} (h : Kp tb a b) (o : Obj) : Kp tb a (b.alloc o) :=
  h.trans ⟨by simp, fun i x e f _ _ h3 => (heap_alloc_old b o (r := i) (Array.getElem?_eq_some_iff.1 h3).1).trans h3⟩
theorem Kp.setCell {tb : Nat} {a b : World} (h : Kp tb a b) (i : Nat) (v : Value) : Kp tb a (b.setCell ⟨tb, i, none⟩ v) :=
  h.trans ⟨by simp [World.setCell], fun k x e f h1 _ h3 => (heap_setCell_other _ _ _ _ h1).trans h3⟩
theorem Kp.drew {tb : Nat} {a b : World} (h : Kp tb a b) : Kp tb a b.drew := h

theorem TellAt.lt {B tb : Nat} {out : List UInt8} {r : Value} {w : World} (h : TellAt B tb out r w) : tb < w.heap.size := by
  obtain ⟨_, p, v, h1, _⟩ := h
  exact (Array.getElem?_eq_some_iff.1 h1).1
theorem TellAt.rows {B tb : Nat} {out : List UInt8} {r : Value} {w : World} (h : TellAt B tb out r w) : w.cell? ⟨tb, 2, none⟩ = some r := by
  obtain ⟨_, p, v, h1, _⟩ := h
  exact cell_of_row w tb 2 _ _ _ h1
/-- What leaves the teller's block, and rows of bytes, keeps a teller. -/
theorem TellAt.keep {B tb : Nat} {out : List UInt8} {r : Value} {w w' : World} (h : TellAt B tb out r w) (hk : ∀ (k : Nat) (c : Array Value) (e : TypeId), (e = 58 ∨ e = 5) → w.heap[k]? = some (.cells c e (0, 0)) → w'.heap[k]? = some (.cells c e (0, 0))) : TellAt B tb out r w' := by
  obtain ⟨h0, p, v, h1, h2, h3⟩ := h
  refine ⟨h0, p, v, hk _ _ _ (.inl rfl) h1, h2, h3.1, ?_⟩
  rcases h3.2 with e | ⟨g, cap, cur, e1, e2, e3, e4⟩
  · exact .inl e
  · exact .inr ⟨g, cap, cur, e1, e2, hk _ _ _ (.inr rfl) e3, e4⟩
theorem TellAt.alloc {B tb : Nat} {out : List UInt8} {r : Value} {w : World} (h : TellAt B tb out r w) (o : Obj) : TellAt B tb out r (w.alloc o) :=
  h.keep fun k _c _e _ h3 => (heap_alloc_old w o (r := k) (Array.getElem?_eq_some_iff.1 h3).1).trans h3
theorem TellAt.drew {B tb : Nat} {out : List UInt8} {r : Value} {w : World} (h : TellAt B tb out r w) : TellAt B tb out r w.drew := ⟨h.hB, h.blk⟩
theorem TellAt.drewN {B tb : Nat} {out : List UInt8} {r : Value} {w : World} (h : TellAt B tb out r w) (q : Nat) : TellAt B tb out r (w.drewN q) := ⟨h.hB, h.blk⟩

set_option maxHeartbeats 1000000 in
set_option maxRecDepth 100000 in
theorem copyCheck_used (b : Nat) (w : World) (h0 : w.cell? ⟨b, 0, none⟩ = some (.pointer (some ⟨b, 0, none⟩))) :
    Calls Tryz.prog 72 #[.pointer (some ⟨b, 0, none⟩)] w fun e w' => e = .returned (.tuple #[]) ∧ w' = w := by
  obtain ⟨j, hj, _⟩ := Option.map_eq_some_iff.1 sizeBuilder
  go_enter Tryz.func72, Tryz.ntmps72
  go_wp2
  rw [Lib.run_neq_ptr_same w _ Tryz.underlying53 hj]
  go_wp2
  go_end0
  exact ⟨rfl, rfl⟩

set_option maxHeartbeats 1000000 in
set_option maxRecDepth 100000 in
theorem copyCheck_fresh (b : Nat) (w : World) (h0 : w.cell? ⟨b, 0, none⟩ = some (.pointer none)) (hsh : w.shape? b = some (58, 3)) (hfz : w.frozen? ⟨b, 0, none⟩ = false) :
    Calls Tryz.prog 72 #[.pointer (some ⟨b, 0, none⟩)] w fun e w' => e = .returned (.tuple #[]) ∧ w' = w.setCell ⟨b, 0, none⟩ (.pointer (some ⟨b, 0, none⟩)) := by
  obtain ⟨j, hj, hjs⟩ := Option.map_eq_some_iff.1 sizeBuilder
  go_enter Tryz.func72, Tryz.ntmps72
  go_wp2
  rw [Lib.run_to_unsafe w ⟨b, 0, none⟩ Tryz.underlying53 Tryz.underlying113 hj (by rw [hjs]; decide) hsh (Nat.zero_lt_succ 2)]
  simp only [Result.andThen]
  rw [Oper.upon_value]
  go_wp2
  rw [run_callFunc_extern Tryz.func81 (by kernel_rfl) (by kernel_rfl) (by kernel_rfl) (e := Extern.AbiNoEscape.same) (by kernel_rfl)]
  rw [Lib.run_noEscape]
  simp only [Result.andThen]
  rw [Oper.upon_value]
  go_wp2
  rw [Lib.run_from_unsafe w ⟨b, 0, none⟩ Tryz.underlying113 Tryz.underlying53 hj hsh liesBuilder]
  simp only [Result.andThen]
  rw [Oper.upon_value]
  go_wp2
  go_end0
  exact ⟨rfl, rfl⟩

end Go.Proofs.YtfplplobhmacoaaGreatDoor
