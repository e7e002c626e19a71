/-
  What is proved here: strings.Clone, by the library's contract.
-/
import Derived.Test.YtchdfenickjiiaaHHeap6
import Derived.Shelf.Strconv.Clone
namespace Go.Proofs.Ytchdfenickjiiaa
open Go Go.RowKit

def laysClone_ren : Go.Shelf.Ren := ⟨fun | 316 => 86 | n => n, fun | 9 => 9 | 3 => 3 | 4 => 4 | 37 => 38 | 0 => 0 | 127 => 164 | 5 => 5 | n => n, fun | n => n⟩
theorem laysClone : Go.Proofs.LaysM.n316 Try.prog laysClone_ren := {
  mixed := by kernel_rfl
  f316 := Try.func86.trans (congrArg some (by kernel_rfl))
  t0 := Try.underlying0
  a0 := Try.isAgg0
  z0 := Try.sizeOf0
  v0 := Try.zeroValue0
  t3 := Try.underlying3
  a3 := Try.isAgg3
  z3 := Try.sizeOf3
  v3 := Try.zeroValue3
  t4 := Try.underlying4
  a4 := Try.isAgg4
  z4 := Try.sizeOf4
  v4 := Try.zeroValue4
  t9 := Try.underlying9
  a9 := Try.isAgg9
  z9 := Try.sizeOf9
  v9 := Try.zeroValue9
  t37 := Try.underlying38
  a37 := Try.isAgg38
  z37 := Try.sizeOf38
  v37 := Try.zeroValue38
  t127 := Try.underlying164
  a127 := Try.isAgg164
  z127 := Try.sizeOf164
  v127 := Try.zeroValue164
  t5 := Try.underlying5
  a5 := Try.isAgg5
  z5 := Try.sizeOf5
  v5 := Try.zeroValue5
  i0 := by kernel_rfl
  i3 := by kernel_rfl
  i4 := by kernel_rfl
  i5 := by kernel_rfl
  i9 := by kernel_rfl
  i37 := by kernel_rfl
  i127 := by kernel_rfl }

theorem below_fr {w w' : World} (h : Below w.heap.size w w') : Fr (fun _ => False) w w' := ⟨h.os, h.tape, h.output, h.size, fun k hk _ => h.block k hk⟩

theorem sclone_any (s : ByteArray) (w : World) (h : s.size ≤ 281474976710656) :
    Calls Try.prog 86 #[.string s] w fun e w' => e = .returned (.string s) ∧ Fr (fun _ => False) w w' :=
  (Any.stringslite_Clone laysClone s w h).mono fun _ _ he => ⟨he.1, below_fr he.2⟩

theorem strClone_any (s : ByteArray) (w : World) (h : s.size ≤ 281474976710656) :
    Calls Try.prog 50 #[.string s] w fun e w' => e = .returned (.string s) ∧ Fr (fun _ => False) w w' := by
  have K := sclone_any s w h
  go_enter Try.func50, Try.ntmps50
  go_wp2_with (go_at_call 86; refine K.mono ?_; rintro e w1 ⟨rfl, F1⟩)
  go_ret
  exact ⟨rfl, F1⟩

end Go.Proofs.Ytchdfenickjiiaa
