/-
  What is proved here: strings.Clone, by the library's contract; package read's isDigit, inSymbol, isSymbol.
-/
import Derived.Test.YtbijdflgjelpnaaGreatDoorWXB
import Derived.Test.YtbijdflgjelpnaaGreatDoorWRC
import Derived.Shelf.Strconv.Clone
namespace Go.Proofs.YtbijdflgjelpnaaGreatDoor
open Go Go.RowKit

def laysClone_ren : Go.Shelf.Ren := ⟨fun | 316 => 71 | n => n, fun | 9 => 9 | 3 => 3 | 4 => 4 | 37 => 37 | 0 => 0 | 127 => 82 | 5 => 5 | n => n, fun | n => n⟩
theorem laysClone : Go.Proofs.LaysM.n316 Tryz.prog laysClone_ren := {
  mixed := by kernel_rfl
  f316 := Tryz.func71.trans (congrArg some (by kernel_rfl))
  t0 := Tryz.underlying0
  a0 := Tryz.isAgg0
  z0 := Tryz.sizeOf0
  v0 := Tryz.zeroValue0
  t3 := Tryz.underlying3
  a3 := Tryz.isAgg3
  z3 := Tryz.sizeOf3
  v3 := Tryz.zeroValue3
  t4 := Tryz.underlying4
  a4 := Tryz.isAgg4
  z4 := Tryz.sizeOf4
  v4 := Tryz.zeroValue4
  t9 := Tryz.underlying9
  a9 := Tryz.isAgg9
  z9 := Tryz.sizeOf9
  v9 := Tryz.zeroValue9
  t37 := Tryz.underlying37
  a37 := Tryz.isAgg37
  z37 := Tryz.sizeOf37
  v37 := Tryz.zeroValue37
  t127 := Tryz.underlying82
  a127 := Tryz.isAgg82
  z127 := Tryz.sizeOf82
  v127 := Tryz.zeroValue82
  t5 := Tryz.underlying5
  a5 := Tryz.isAgg5
  z5 := Tryz.sizeOf5
  v5 := Tryz.zeroValue5
  i0 := by kernel_rfl
  i3 := by kernel_rfl
  i4 := by kernel_rfl
  i5 := by kernel_rfl
  i9 := by kernel_rfl
  i37 := by kernel_rfl
  i127 := by kernel_rfl }

theorem sclone_up (s : ByteArray) (w : World) (h : s.size ≤ 281474976710656) :
    Calls Tryz.prog 71 #[.string s] w fun e w' => e = .returned (.string s) ∧ Up w w' :=
  (Any.stringslite_Clone laysClone s w h).mono fun _ _ he => ⟨he.1, he.2⟩

theorem clone_up (s : ByteArray) (w : World) (h : s.size ≤ 281474976710656) :
    Calls Tryz.prog 56 #[.string s] w fun e w' => e = .returned (.string s) ∧ Up w w' := by
  have K := sclone_up s w h
  go_enter Tryz.func56, Tryz.ntmps56
  go_wp2_with (go_at_call 71; refine K.mono ?_; rintro e w1 ⟨rfl, F1⟩)
  go_ret
  exact ⟨rfl, F1⟩

end Go.Proofs.YtbijdflgjelpnaaGreatDoor
