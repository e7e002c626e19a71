/-
  What is proved here: strings.Clone, by the library's contract; package read's isDigit, inSymbol, isSymbol.
-/
import Derived.Test.YteipogfolnlblaaWXB
import Derived.Test.YteipogfolnlblaaWRC
import Derived.Shelf.Strconv.Clone
namespace Go.Proofs.Yteipogfolnlblaa
open Go Go.RowKit

def laysClone_ren : Go.Shelf.Ren := ⟨fun | 316 => 92 | n => n, fun | 9 => 9 | 3 => 3 | 4 => 4 | 37 => 72 | 0 => 0 | 127 => 118 | 5 => 5 | n => n, fun | n => n⟩
theorem laysClone : Go.Proofs.LaysM.n316 Try.prog laysClone_ren := {
  mixed := by kernel_rfl
  f316 := Try.func92.trans (congrArg some (by kernel_rfl))
  t0 := Try.underlying0
  a0 := Try.isAgg0
  z0 := Try.sizeOf0
  v0 := Try.zeroValue0
  t3 := Try.underlying3
  a3 := Try.isAgg3
  z3 := Try.sizeOf3
  v3 := Try.zeroValue3
  t4 := Try.underlying4
  a4 := Try.isAgg4
  z4 := Try.sizeOf4
  v4 := Try.zeroValue4
  t9 := Try.underlying9
  a9 := Try.isAgg9
  z9 := Try.sizeOf9
  v9 := Try.zeroValue9
  t37 := Try.underlying72
  a37 := Try.isAgg72
  z37 := Try.sizeOf72
  v37 := Try.zeroValue72
  t127 := Try.underlying118
  a127 := Try.isAgg118
  z127 := Try.sizeOf118
  v127 := Try.zeroValue118
  t5 := Try.underlying5
  a5 := Try.isAgg5
  z5 := Try.sizeOf5
  v5 := Try.zeroValue5
  i0 := by kernel_rfl
  i3 := by kernel_rfl
  i4 := by kernel_rfl
  i5 := by kernel_rfl
  i9 := by kernel_rfl
  i37 := by kernel_rfl
  i127 := by kernel_rfl }

theorem sclone_up (s : ByteArray) (w : World) (h : s.size ≤ 281474976710656) :
    Calls Try.prog 92 #[.string s] w fun e w' => e = .returned (.string s) ∧ Up w w' :=
  (Any.stringslite_Clone laysClone s w h).mono fun _ _ he => ⟨he.1, he.2⟩

theorem clone_up (s : ByteArray) (w : World) (h : s.size ≤ 281474976710656) :
    Calls Try.prog 79 #[.string s] w fun e w' => e = .returned (.string s) ∧ Up w w' := by
  have K := sclone_up s w h
  go_enter Try.func79, Try.ntmps79
  go_wp2_with (go_at_call 92; refine K.mono ?_; rintro e w1 ⟨rfl, F1⟩)
  go_ret
  exact ⟨rfl, F1⟩

end Go.Proofs.Yteipogfolnlblaa
