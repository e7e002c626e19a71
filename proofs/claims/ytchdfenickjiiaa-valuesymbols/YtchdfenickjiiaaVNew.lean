/-
  What is proved here: package value's empty symbols, and a new store.
-/
import Derived.Test.YtchdfenickjiiaaVLay
import Derived.Handy
import Derived.Maps.Own
namespace Go.Proofs.Ytchdfenickjiiaa
open Go Go.RowKit

set_option maxRecDepth 20000 in
theorem noSymbols_any (z : Int) (w : World) :
    Calls Try.prog 44 #[.int .i64 z] w fun e w' => ∃ mb, e = .returned (.agg #[.slice none 0 0, .map (some mb), .int .i64 z]) ∧ w.heap.size ≤ mb ∧ w'.heap[mb]? = some (.map #[] 0) ∧ Fr (fun _ => False) w w' := by
  have hmm := @run_makeMap Try.prog
  go_enter Try.func44, Try.ntmps44
  go_wp2
  go_returns
  refine ⟨w.heap.size + 1, rfl, by omega, ?_, ((Fr.refl _ w).alloc _).alloc _⟩
  have := heap_alloc_new (w.alloc (.cells #[.slice none 0 0, .map (some (w.heap.size + 1)), .int .i64 z] 50)) (.map #[] 0)
  simpa using this

/-- A store in memory: its heap, its symbols' words, their places. -/
structure StoreAt (w : World) (sb hb : Nat) (X : Nat → Prop) (vS : Value) (mb : Nat) (ts : Int) (sz : Nat) (tm : Int) (n : Nat) (f : Nat → Nat) (st : Nat → Bool) : Prop where
  blk : w.heap[sb]? = some (.cells #[.pointer (some ⟨hb, 0, none⟩), vS, .map (some mb), .int .i64 ts] 52 (0, 0))
  H : HeapAt w hb X sz tm n f st
  sX : ¬ X sb
  mX : ¬ X mb
  ms : mb ≠ sb
  ml : mb < w.heap.size
theorem StoreAt.cells {w : World} {sb hb : Nat} {X : Nat → Prop} {vS : Value} {mb : Nat} {ts : Int} {sz : Nat} {tm : Int} {n : Nat} {f : Nat → Nat} {st : Nat → Bool} (h : StoreAt w sb hb X vS mb ts sz tm n f st) : w.cell? ⟨sb, 0, none⟩ = some (.pointer (some ⟨hb, 0, none⟩)) ∧ w.cell? ⟨sb, 1, none⟩ = some vS ∧ w.cell? ⟨sb, 2, none⟩ = some (.map (some mb)) ∧ w.cell? ⟨sb, 3, none⟩ = some (.int .i64 ts) := by
  refine ⟨?_, ?_, ?_, ?_⟩
  all_goals
    rw [cell_of_row w sb _ _ _ _ h.blk]
    rfl

set_option maxRecDepth 20000 in
set_option maxHeartbeats 1000000 in
theorem vnew_ok (z : Nat) (w : World) (h1 : 2 ≤ z) (h2 : z ≤ 1048576) :
    Calls Try.prog 15 #[.int .i64 (z : Int)] w fun e w' => ∃ sb hb X mb, e = .returned (.tuple #[.pointer (some ⟨sb, 0, none⟩), .int .i64 0]) ∧ StoreAt w' sb hb X (.slice none 0 0) mb 0 z 0 1 (fun _ => 0) (fun _ => false) ∧ w'.heap[mb]? = some (.map #[] 0) ∧ (∀ k, X k → w.heap.size ≤ k) ∧ w.heap.size ≤ sb ∧ w.heap.size ≤ mb ∧ Fr (fun _ => False) w w' := by
  have KN := new_ok z w h1 h2
  go_enter Try.func15, Try.ntmps15
  go_wp2_with (first
    | (go_at_call 43; refine KN.mono ?_; rintro e w1 ⟨rfl, X, H1, X1, F1⟩; have HH1 := hide H1; have HX1 := hide X1; have HF1 := hide F1; clear H1 X1 F1 KN)
    | (go_at_call 45; refine (times_any _ _ X z 0 _ _ _ HH1.out).mono ?_; rintro e w2 ⟨rfl, hw⟩; replace hw := hw.symm; subst hw)
    | (go_at_call 44; refine (noSymbols_any 0 _).mono ?_; rintro e w3 ⟨mb, rfl, hmb, hmm, F3⟩; have HM := hide (And.intro hmb hmm); have HF3 := hide F3; clear hmb hmm F3))
  go_ret2
  have s1 := HF1.out.size
  have s3 := HF3.out.size
  have hml : mb < w3.heap.size := (Array.getElem?_eq_some_iff.1 HM.out.2).1
  have hXl : ∀ k, X k → k < w1.heap.size := fun k hk => HH1.out.lt hk
  have FA : Fr (fun _ => False) w3 (w3.alloc (.cells #[.pointer (some ⟨w.heap.size, 0, none⟩), .slice none 0 0, .map (some mb), .int .i64 0] 52)) := (Fr.refl _ _).alloc _
  refine ⟨w3.heap.size, w.heap.size, X, mb, rfl, ⟨heap_alloc_new w3 _, (HH1.out.fr HF3.out (fun _ _ e => e)).fr FA (fun _ _ e => e), fun e => ?_, fun e => ?_, by omega, by simp; omega⟩, (FA.block mb hml (fun e => e)).trans HM.out.2, HX1.out, by omega, ?_, Fr.trans HF1.out (Fr.trans HF3.out FA (fun _ _ e => e)) (fun _ _ e => e)⟩
  · have := hXl _ e; omega
  · have := hXl _ e; have := HM.out.1; omega
  · have := HM.out.1; omega

end Go.Proofs.Ytchdfenickjiiaa
