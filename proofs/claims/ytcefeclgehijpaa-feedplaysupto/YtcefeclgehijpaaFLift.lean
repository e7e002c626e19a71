/-
  What is proved here: what the frame of every statement of this seat shares; how a feed that came in is opened.
-/
import Derived.Test.YtcefeclgehijpaaRows
import Derived.Test.YtcefeclgehijpaaFAdd0
import Derived.WalkKit
import Derived.ProofKit
import Derived.OpenShut
import Derived.ShutString
import Derived.ChangeOld
import Derived.Below
import Derived.SizedLaws
import Derived.Deep.DeepHandedRow
import Derived.Lib.LaidTab
import Derived.Lib.SmallJoins
namespace Go.Proofs.Ytcefeclgehijpaa
open Go.ChangeShapes Go.WideShapes Go.ChangeAt Go.RowKit
open Go.ChangeMaps (open_string shut_string)

theorem own : ownKnob Try.prog.godebug = none := by kernel_rfl
theorem laidOut : laidOutB Try.prog = true := by kernel_rfl
theorem cellsFeed : Try.prog.cellsOf 37 = 4 := by kernel_rfl

/-- A number of the machine. -/
def I64 (x : Int) : Prop := -9223372036854775808 ≤ x ∧ x ≤ 9223372036854775807
theorem i64_of {x : Int} (h : (Lit.int .i64 x).wf = true) : I64 x := by simpa [I64, Lit.wf, IntKind.min, IntKind.max, IntKind.signed, IntKind.bits] using h
def Fd.ok (f : Fd) : Prop := I64 f.p ∧ I64 f.c ∧ I64 f.m ∧ I64 f.k
/-- Four cells that read as a feed. -/
theorem feed_cells {H : Type} {enc : TypeId × Value → H} {W : World} {cs : List Value} {fuel : Nat} {x : DataW H × List MemPlace} (hl : cs.length = 4) (h : DataW.trod enc Try.prog W 0 (fun _ => true) true fuel 37 cs = some x) :
    ∃ f : Fd, cs = [.int .i64 f.p, .int .i64 f.c, .int .i64 f.m, .int .i64 f.k] ∧ f.ok := by
  match cs, hl with
  | [c0, c1, c2, c3], _ =>
    obtain ⟨y0, y1, y2, y3, m, -, -, h0, h1, h2, h3⟩ := Go.Joins.trod_struct4 Try.underlying37 h
    have e3 : Try.prog.cellsOf 3 = 1 := by kernel_rfl
    simp only [e3] at h0 h1 h2 h3
    replace h0 : DataW.trod enc Try.prog W 0 (fun _ => true) true m 3 [c0] = some y0 := h0
    replace h1 : DataW.trod enc Try.prog W 0 (fun _ => true) true m 3 [c1] = some y1 := h1
    replace h2 : DataW.trod enc Try.prog W 0 (fun _ => true) true m 3 [c2] = some y2 := h2
    replace h3 : DataW.trod enc Try.prog W 0 (fun _ => true) true m 3 [c3] = some y3 := h3
    obtain ⟨x0, e0, -, w0⟩ := DataW.trod_int Try.underlying3 h0
    obtain ⟨x1, e1, -, w1⟩ := DataW.trod_int Try.underlying3 h1
    obtain ⟨x2, e2, -, w2⟩ := DataW.trod_int Try.underlying3 h2
    obtain ⟨x3, e3, -, w3⟩ := DataW.trod_int Try.underlying3 h3
    cases e0; cases e1; cases e2; cases e3
    exact ⟨⟨x0, x1, x2, x3⟩, rfl, i64_of w0, i64_of w1, i64_of w2, i64_of w3⟩
theorem open_feed {H : Type} {enc : TypeId × Value → H} {W : World} {base : Nat} {v : Value} {d : DataW H} {p : List MemPlace} (hok : Value.okWide Try.prog W .any base 37 v) (h : DataW.Trod enc Try.prog W 0 (fun _ => true) true 37 v d p) :
    ∃ f : Fd, v = fdV f.p f.c f.m f.k ∧ f.ok := by
  obtain ⟨cs, rfl, hsz⟩ := okWide_struct Try.underlying37 hok
  rw [cellsFeed] at hsz
  obtain ⟨fuel, hf⟩ := h
  obtain ⟨f, e, hk⟩ := feed_cells (cs := cs.toList) (by simpa using hsz) hf
  refine ⟨f, ?_, hk⟩
  obtain ⟨l⟩ := cs
  simp at e
  rw [e]
  rfl

end Go.Proofs.Ytcefeclgehijpaa
