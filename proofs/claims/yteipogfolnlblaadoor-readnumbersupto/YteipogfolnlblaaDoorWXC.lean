/-
  What is proved here: strings.Clone, by the library's contract; package read's isDigit, inSymbol, isSymbol.
-/
import Derived.Test.YteipogfolnlblaaDoorWXB
import Derived.Test.YteipogfolnlblaaDoorWRC
import Derived.Shelf.Strconv.Clone
namespace Go.Proofs.YteipogfolnlblaaDoor
open Go Go.RowKit

def laysClone_ren : Go.Shelf.Ren := ⟨fun | 316 => 76 | n => n, fun | 9 => 9 | 3 => 3 | 4 => 4 | 37 => 68 | 0 => 0 | 127 => 121 | 5 => 5 | n => n, fun | n => n⟩
theorem laysClone : Go.Proofs.LaysM.n316 Tryd.prog laysClone_ren := {
  mixed := by kernel_rfl
  f316 := Tryd.func76.trans (congrArg some (by kernel_rfl))
  t0 := Tryd.underlying0
  a0 := Tryd.isAgg0
  z0 := Tryd.sizeOf0
  v0 := Tryd.zeroValue0
  t3 := Tryd.underlying3
  a3 := Tryd.isAgg3
  z3 := Tryd.sizeOf3
  v3 := Tryd.zeroValue3
  t4 := Tryd.underlying4
  a4 := Tryd.isAgg4
  z4 := Tryd.sizeOf4
  v4 := Tryd.zeroValue4
  t9 := Tryd.underlying9
  a9 := Tryd.isAgg9
  z9 := Tryd.sizeOf9
  v9 := Tryd.zeroValue9
  t37 := Tryd.underlying68
  a37 := Tryd.isAgg68
  z37 := Tryd.sizeOf68
  v37 := Tryd.zeroValue68
  t127 := Tryd.underlying121
  a127 := Tryd.isAgg121
  z127 := Tryd.sizeOf121
  v127 := Tryd.zeroValue121
  t5 := Tryd.underlying5
  a5 := Tryd.isAgg5
  z5 := Tryd.sizeOf5
  v5 := Tryd.zeroValue5
  i0 := by kernel_rfl
  i3 := by kernel_rfl
  i4 := by kernel_rfl
  i5 := by kernel_rfl
  i9 := by kernel_rfl
  i37 := by kernel_rfl
  i127 := by kernel_rfl }

theorem sclone_up (s : ByteArray) (w : World) (h : s.size ≤ 281474976710656) :
    Calls Tryd.prog 76 #[.string s] w fun e w' => e = .returned (.string s) ∧ Up w w' :=
  (Any.stringslite_Clone laysClone s w h).mono fun _ _ he => ⟨he.1, he.2⟩

theorem clone_up (s : ByteArray) (w : World) (h : s.size ≤ 281474976710656) :
    Calls Tryd.prog 58 #[.string s] w fun e w' => e = .returned (.string s) ∧ Up w w' := by
  have K := sclone_up s w h
  go_enter Tryd.func58, Tryd.ntmps58
  go_wp2_with (go_at_call 76; refine K.mono ?_; rintro e w1 ⟨rfl, F1⟩)
  go_ret
  exact ⟨rfl, F1⟩

end Go.Proofs.YteipogfolnlblaaDoor
