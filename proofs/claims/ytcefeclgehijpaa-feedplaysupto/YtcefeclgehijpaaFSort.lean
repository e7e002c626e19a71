/-
  What is proved here: the library's sort, at feeds: what it leaves.
-/
import Derived.Test.YtcefeclgehijpaaFClos
import Derived.Shelf.SlSortCmp.NoneTotal
namespace Go.Proofs.Ytcefeclgehijpaa
open Go Go.RowKit Go.Sort

def encF (f : Fd) : List Value := [.int .i64 f.p, .int .i64 f.c, .int .i64 f.m, .int .i64 f.k]
/-- A place ahead of another. -/
def ltF (x y : Fd) : Prop := x.p < y.p ∨ x.p = y.p ∧ x.c < y.c
theorem lt_cmp (x y : Fd) : Go.Proofs.ltOf cmpF x y = true ↔ ltF x y := by
  unfold Go.Proofs.ltOf cmpF cmpI ltF
  by_cases h1 : x.p < y.p <;> by_cases h2 : x.p > y.p <;> by_cases h3 : x.c < y.c <;> by_cases h4 : x.c > y.c <;> simp [h1, h2, h3, h4] <;> omega
theorem lt_cmpF (x y : Fd) : Go.Proofs.ltOf cmpF x y = false ↔ ¬ ltF x y := by
  rw [← lt_cmp]
  cases Go.Proofs.ltOf cmpF x y <;> simp
/-- A feed that may be none: as the sort's contract wants a row of something that there is one of. -/
def z0 : Fd := ⟨0, 0, 0, 0⟩
def ob (x : Option Fd) : Fd := x.getD z0
def encO (x : Option Fd) : List Value := encF (ob x)
def cmpO (x y : Option Fd) : Int := cmpF (ob x) (ob y)
theorem lt_cmpO (x y : Option Fd) : Go.Proofs.ltOf cmpO x y = true ↔ ltF (ob x) (ob y) := lt_cmp (ob x) (ob y)
theorem lt_cmpOF (x y : Option Fd) : Go.Proofs.ltOf cmpO x y = false ↔ ¬ ltF (ob x) (ob y) := lt_cmpF (ob x) (ob y)
theorem swoO : SWO (Go.Proofs.ltOf cmpO) where
  irrefl x := by rw [lt_cmpOF]; unfold ltF; omega
  trans x y z h1 h2 := by rw [lt_cmpO] at *; unfold ltF at *; omega
  ntrans x y z h1 h2 := by rw [lt_cmpOF] at *; unfold ltF at *; omega

theorem fr_sorted (w : World) (blk off n : Nat) (d : Array (Option Fd)) (os : Array Obj) : Fr (fun k => k = blk) w (sortWorldK encO 4 w blk off n d os) := by
  refine ⟨rfl, rfl, rfl, ?_, fun k hk hn => ?_⟩
  · show w.heap.size ≤ ((mapBlock (Go.Sort.ahead w n) blk _).heap ++ os).size
    simp [mapBlock, Go.Sort.ahead]
  · show ((mapBlock (Go.Sort.ahead w n) blk _).heap ++ os)[k]? = _
    rw [Array.getElem?_append_left (by simpa [mapBlock, Go.Sort.ahead] using hk)]
    show (w.heap.modify blk _)[k]? = _
    rw [Array.getElem?_modify, if_neg (Ne.symm hn)]
theorem sort_some (w : World) (blk off cap : Nat) (d : Array (Option Fd)) (hH : HoldsK encO 4 w blk off d) (hblk : blk < w.heap.size) (hsz : d.size < 4611686018427387904) :
    Calls Try.prog 28 #[.slice (some ⟨blk, off, none⟩) d.size cap, .func (.func 29) #[] #[]] w fun e w' => e = .returned (.tuple #[]) ∧ ∃ d', PermIn 0 d.size d d' ∧ SortedIn (Go.Proofs.ltOf cmpO) 0 d.size d' ∧ HoldsK encO 4 w' blk off d' ∧ Fr (fun k => k = blk) w w' := by
  have eg : ∀ args w, (callFunc 29 args).run Try.prog w = .ok (.enter 29 args) w := enters_of Try.func29 (by kernel_rfl) rfl
  have hcon := AnyQ.slices_SortFunc sortFd 4 Try.isAgg37 Try.sizeOf37 encO (fun _ => rfl) (fun x v hv => by simp [encO, encF] at hv; rcases hv with rfl | rfl | rfl | rfl <;> rfl) cmpO swoO 29 #[] blk off cap d w eg (fun _ _ _ _ x y => clos_any (ob x) (ob y) _) hH hblk hsz
  change Calls Try.prog 28 _ _ _ at hcon
  refine hcon.mono ?_
  rintro e w' ⟨rfl, d', n, os, hp, hs, rfl⟩
  refine ⟨rfl, d', hp, hs, holdsK_sortWorldK_c encO 4 w blk off d d' n os hH hblk hp.1, fr_sorted w blk off n d' os⟩
theorem sort_none (w : World) (p : Option Addr) (cap : Nat) (fv : Value) : Calls Try.prog 28 #[.slice p 0 cap, fv] w fun e w' => e = .returned (.tuple #[]) ∧ w' = w := by
  have := AnyF.slices_SortFunc_none sortFd p cap fv w
  change Calls Try.prog 28 _ _ _ at this
  exact this

end Go.Proofs.Ytcefeclgehijpaa
