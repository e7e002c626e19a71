/-
  What is proved here: the library's iterator over the chunks of a list of bytes: which slices it hands over, in order.
-/
import Derived.RangeFuncNested
import Derived.RangeFuncBound
import Derived.RangeFuncCalls
import Derived.RangeFuncLeaves
import Derived.Shelf.Abstract
import Derived.Shelf.RegionOpen
import Derived.WalkKit
import Derived.OwnWalkIn
import Derived.TacticsInMore
import Derived.LoopNIn
import Derived.LoopIn
import Derived.Sort.QuietIn
import Derived.Test.YtchdfenickjiiaaHHeap6
namespace Go.Proofs.Ytchdfenickjiiaa
open Go Go.RowKit Go.Shelf

attribute [local go_sem] Oper.semAt_some

/-- What has come when k rounds are over. -/
def upto (k : Nat) : List Nat := List.range k
theorem upto_succ (k : Nat) : upto (k + 1) = upto k ++ [k] := List.range_succ
theorem upto_length (k : Nat) : (upto k).length = k := by simp [upto]
/-- How long chunk k of len bytes is. -/
def clen (len k : Nat) : Nat := min 8 (len - 8 * k)
/-- Chunk k. -/
def chunkV (b off len k : Nat) : Value := .slice (some ⟨b, off + 8 * k, none⟩) (clen len k) (clen len k)
/-- What a round keeps: the iterator's own two variables. -/
def KeepB (Bs Bn : Nat) (W W' : World) : Prop := W'.cell? ⟨Bs, 0, none⟩ = W.cell? ⟨Bs, 0, none⟩ ∧ W'.cell? ⟨Bn, 0, none⟩ = W.cell? ⟨Bn, 0, none⟩

set_option maxRecDepth 100000 in
set_option maxHeartbeats 2000000 in
theorem chunk1_in (F : Fence) (n : Nat) (hf : F.fn 92) (hro : F.round = none) (hn : 1 ≤ n) (l Bs Bn b off len cap : Nat) (hlc : len ≤ cap) (hcap : len ≤ 140737488351232) (J Jx : List Nat → World → Prop) (hJd : ∀ pre W q, J pre W → J pre (W.drewN q))
    (hY : ∀ pre x W, J pre W → pre.length < (len + 7) / 8 → YieldAt F (n - 1) Try.prog l #[chunkV b off len x] W fun e W' =>
      (e = .returned (.bool true) ∧ J (pre ++ [x]) W' ∧ KeepB Bs Bn W W') ∨ (e = .returned (.bool false) ∧ Jx (pre ++ [x]) W'))
    (W : World) (hBs : W.cell? ⟨Bs, 0, none⟩ = some (.slice (some ⟨b, off, none⟩) len cap)) (hBn : W.cell? ⟨Bn, 0, none⟩ = some (.int .i64 8)) (h0 : J [] W) :
    CallsIn F n Try.prog 92 #[.func (.yield l) #[] #[], .pointer (some ⟨Bs, 0, none⟩), .pointer (some ⟨Bn, 0, none⟩)] W fun e W' => (∃ v, e = .returned v) ∧
      ((∃ ys, ys = upto ((len + 7) / 8) ∧ J ys W') ∨ (∃ pre, (∃ k, k ≤ (len + 7) / 8 ∧ pre = upto k) ∧ Jx pre W')) := by
  refine callsIn_of_wp Try.func92 rfl hf ?_ hro
  simp only [Try.ntmps92, List.size_toArray, List.length_cons, List.length_nil, Nat.reduceAdd, Nat.reduceSub, Array.replicate_succ, Array.replicate_zero, List.push_toArray, List.append_toArray, List.nil_append, List.cons_append]
  gi_wp2
  gi_loopw [4] (fun i wr => ∃ k : Nat, k ≤ (len + 7) / 8 ∧ i = .int .i64 ((8 * k : Nat) : Int) ∧ J (upto k) wr ∧ KeepB Bs Bn W wr)
    (fun i _ => len + 8 - (intOf i).toNat)
  case atStart => exact ⟨0, Nat.zero_le _, rfl, h0, rfl, rfl⟩
  case round =>
    obtain ⟨k, hk, rfl, hJs, hnx⟩ := hrel
    have c1 := hnx.1.trans hBs
    have c2 := hnx.2.trans hBn
    by_cases hlt : k < (len + 7) / 8
    · obtain ⟨i, hi⟩ : ∃ i, i = 8 * k := ⟨_, rfl⟩
      obtain ⟨d, hd⟩ : ∃ d, d = len - i := ⟨_, rfl⟩
      have hdI : (len : Int) - (i : Int) = (d : Int) := by omega
      have hil : (i : Int) < (len : Int) := by omega
      have hil2 : (i : Int) ≤ (cap : Int) := by omega
      have hil3 : (i : Int) ≤ (len : Int) := by omega
      have hic : (i : Int) ≤ 140737488351232 := by omega
      have HJ := hide hJs
      have HX := hide hnx
      have HI := hide hi
      by_cases h8 : 8 ≤ d
      · have hV : chunkV b off len k = .slice (some ⟨b, off + i, none⟩) 8 8 := by
          have : clen len k = 8 := by unfold clen; omega
          unfold chunkV
          rw [this, ← hi]
        rw [← hi]
        have h8I : (8 : Int) ≤ (d : Int) := by omega
        have h9 : (i : Int) + 8 ≤ (cap : Int) := by omega
        have h10 : 8 ≤ len - i := by omega
        have HV := hide hV
        clear hJs hnx hi hd hV
        gi_wp2
        refine wpIn_region_quiet_lit hro (by kernel_rfl) (by kernel_rfl) ?_
        repeat (gi_big_quiet_step (fail))
        refine wpQuietIn_nil ?_
        intro _ hw'
        obtain ⟨nq, hw''⟩ := hw'
        subst hw''
        obtain ⟨fn, tmps, assign, body, hy, hR⟩ := hY _ k (wr.drewN nq) (hJd _ _ nq HJ.out) (by rw [upto_length]; exact hlt)
        rw [HV.out] at hy
        gi_wp2
        refine hR.mono ?_
        rintro e W3 (⟨rfl, hJ3, hk3⟩ | ⟨rfl, hJx3⟩)
        · have c3 := hk3.2.trans c2
          gi_wp2
          go_roundw
          case rel => exact ⟨k + 1, by omega, by have := HI.out; simp; omega, by rw [upto_succ]; exact hJ3, hk3.1.trans HX.out.1, hk3.2.trans HX.out.2⟩
          case measure => simp [intOf]; omega
        · gi_wp2
          refine bodyPost_ret (results_none rfl _ _ _) rfl ?_
          exact ⟨⟨_, rfl⟩, .inr ⟨_, ⟨k + 1, by omega, (upto_succ _).symm⟩, hJx3⟩⟩
      · have hV : chunkV b off len k = .slice (some ⟨b, off + i, none⟩) d d := by
          have : clen len k = d := by unfold clen; omega
          unfold chunkV
          rw [this, ← hi]
        rw [← hi]
        have h8I : ¬ ((8 : Int) ≤ (d : Int)) := by omega
        have h9 : (i : Int) + (d : Int) ≤ (cap : Int) := by omega
        have h10 : len - i = d := by omega
        have h11 : min 8 d = d := by omega
        have HV := hide hV
        clear hJs hnx hi hd hV
        gi_wp2
        refine wpIn_region_quiet_lit hro (by kernel_rfl) (by kernel_rfl) ?_
        repeat (gi_big_quiet_step (fail))
        refine wpQuietIn_nil ?_
        intro _ hw'
        obtain ⟨nq, hw''⟩ := hw'
        subst hw''
        obtain ⟨fn, tmps, assign, body, hy, hR⟩ := hY _ k (wr.drewN nq) (hJd _ _ nq HJ.out) (by rw [upto_length]; exact hlt)
        rw [HV.out] at hy
        gi_wp2
        refine hR.mono ?_
        rintro e W3 (⟨rfl, hJ3, hk3⟩ | ⟨rfl, hJx3⟩)
        · have c3 := hk3.2.trans c2
          gi_wp2
          go_roundw
          case rel => exact ⟨k + 1, by omega, by have := HI.out; simp; omega, by rw [upto_succ]; exact hJ3, hk3.1.trans HX.out.1, hk3.2.trans HX.out.2⟩
          case measure => simp [intOf]; omega
        · gi_wp2
          refine bodyPost_ret (results_none rfl _ _ _) rfl ?_
          exact ⟨⟨_, rfl⟩, .inr ⟨_, ⟨k + 1, by omega, (upto_succ _).symm⟩, hJx3⟩⟩
    · have hlt2 : ¬ ((8 * k : Nat) : Int) < (len : Int) := by omega
      have hkE : k = (len + 7) / 8 := by omega
      have HJ := hide hJs
      clear hJs
      gi_wp2
      go_end0
      exact ⟨⟨_, rfl⟩, .inl (hkE ▸ HJ.out)⟩

set_option maxRecDepth 100000 in
set_option maxHeartbeats 2000000 in
/-- .. of no slice: no round. -/
theorem chunk1_nil_in (F : Fence) (n : Nat) (hf : F.fn 92) (hro : F.round = none) (l Bs Bn : Nat) (J : List Nat → World → Prop)
    (W : World) (hBs : W.cell? ⟨Bs, 0, none⟩ = some (.slice none 0 0)) (h0 : J [] W) :
    CallsIn F n Try.prog 92 #[.func (.yield l) #[] #[], .pointer (some ⟨Bs, 0, none⟩), .pointer (some ⟨Bn, 0, none⟩)] W fun e W' => (∃ v, e = .returned v) ∧ J [] W' := by
  refine callsIn_of_wp Try.func92 rfl hf ?_ hro
  simp only [Try.ntmps92, List.size_toArray, List.length_cons, List.length_nil, Nat.reduceAdd, Nat.reduceSub, Array.replicate_succ, Array.replicate_zero, List.push_toArray, List.append_toArray, List.nil_append, List.cons_append]
  gi_wp2
  gi_loopw [4] (fun i wr => i = .int .i64 0 ∧ J [] wr ∧ wr = W) (fun _ _ => 0)
  case atStart => exact ⟨rfl, h0, rfl⟩
  case round =>
    obtain ⟨rfl, hJs, hw⟩ := hrel
    have c1 : wr.cell? ⟨Bs, 0, none⟩ = some (.slice none 0 0) := by rw [hw]; exact hBs
    clear hw
    gi_wp2
    go_end0
    exact ⟨⟨_, rfl⟩, hJs⟩

set_option maxRecDepth 100000 in
/-- slices.Chunk(b, 8): two variables, and the function that holds them. -/
theorem chunk_in (F : Fence) (n : Nat) (hf : F.fn 53) (hro : F.round = none) (a : Option Addr) (len cap : Nat) (w : World) :
    CallsIn F n Try.prog 53 #[.slice a len cap, .int .i64 8] w fun e w' => e = .returned (.func (.func 92) #[] #[.pointer (some ⟨w.heap.size, 0, none⟩), .pointer (some ⟨w.heap.size + 1, 0, none⟩)]) ∧ w' = (w.alloc (.cells #[.slice a len cap] 38)).alloc (.cells #[.int .i64 8] 3) := by
  refine callsIn_of_wp Try.func53 rfl hf ?_ hro
  simp only [Try.ntmps53, List.size_toArray, List.length_cons, List.length_nil, Nat.reduceAdd, Nat.reduceSub, Array.replicate_succ, Array.replicate_zero, List.push_toArray, List.append_toArray, List.nil_append, List.cons_append]
  gi_wp2
  go_ret
  exact ⟨rfl, rfl⟩

theorem grown_drewN (w : World) (n : Nat) (row : Option Nat) : w.grownBy (w.drewN n) row := ⟨rfl, rfl, rfl, Nat.le_refl _, fun _ _ _ => rfl⟩
/-- A list of len bytes, or none. -/
def BytesV (v : Value) (b off len cap : Nat) : Prop := (v = .slice none 0 0 ∧ len = 0) ∨ (v = .slice (some ⟨b, off, none⟩) len cap ∧ len ≤ cap ∧ len ≤ 140737488351232)
theorem chunk_stops (F : Fence) (n : Nat) (hf : F.fn 92) (hro : F.round = none) (hn : 1 ≤ n) (Bs Bn b off len cap : Nat) (v : Value) (hv : BytesV v b off len cap) (w : World) (hs : Bs < w.heap.size) (hb : Bn < w.heap.size) (c1 : w.cell? ⟨Bs, 0, none⟩ = some v) (c2 : w.cell? ⟨Bn, 0, none⟩ = some (.int .i64 8)) :
    SeqStopsK F n Try.prog 92 #[.pointer (some ⟨Bs, 0, none⟩), .pointer (some ⟨Bn, 0, none⟩)] (fun x : Nat => #[chunkV b off len x]) (KeepB Bs Bn) (fun ys => ys = upto ((len + 7) / 8)) (fun pre => ∃ k, k ≤ (len + 7) / 8 ∧ pre = upto k) ((len + 7) / 8) w := fun l J Jx W hW hJ _ hY h0 => by
  have d1 := (hW.cell (p := ⟨Bs, 0, none⟩) hs).trans c1
  have d2 := (hW.cell (p := ⟨Bn, 0, none⟩) hb).trans c2
  rcases hv with ⟨rfl, rfl⟩ | ⟨rfl, h1, h2⟩
  · exact (chunk1_nil_in F n hf hro l Bs Bn J W d1 h0).mono fun e W' he => ⟨he.1, .inl ⟨_, rfl, he.2⟩⟩
  · exact chunk1_in F n hf hro hn l Bs Bn b off len cap h1 h2 J Jx (fun pre W q h => hJ pre W _ none h (grown_drewN _ _ _) (fun r e => by cases e)) hY W d1 d2 h0

end Go.Proofs.Ytchdfenickjiiaa
