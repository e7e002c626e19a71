/-
  What is proved here: the library's iterator over a list of words from its end: which it hands over, in order.
-/
import Derived.Test.YtchdfenickjiiaaVChunk
namespace Go.Proofs.Ytchdfenickjiiaa
open Go Go.RowKit Go.Shelf

attribute [local go_sem] Oper.semAt_some

/-- The places of l words from the end, the first k of them. -/
def downs (l k : Nat) : List Nat := (List.range k).map fun j => l - 1 - j
theorem downs_succ (l k : Nat) : downs l (k + 1) = downs l k ++ [l - 1 - k] := by simp [downs, List.range_succ]
theorem downs_length (l k : Nat) : (downs l k).length = k := by simp [downs]
/-- What a round keeps: the iterator's variable, and the words. -/
def KeepD (Bs b off l : Nat) (W W' : World) : Prop := W'.cell? ⟨Bs, 0, none⟩ = W.cell? ⟨Bs, 0, none⟩ ∧ ∀ i, i < l → W'.cell? ⟨b, off + i, none⟩ = W.cell? ⟨b, off + i, none⟩
theorem KeepD.refl (Bs b off l : Nat) (W : World) : KeepD Bs b off l W W := ⟨rfl, fun _ _ => rfl⟩
theorem KeepD.trans {Bs b off l : Nat} {A B C : World} (h : KeepD Bs b off l A B) (k : KeepD Bs b off l B C) : KeepD Bs b off l A C := ⟨k.1.trans h.1, fun i hi => (k.2 i hi).trans (h.2 i hi)⟩

set_option maxRecDepth 100000 in
set_option maxHeartbeats 2000000 in
theorem back1_in (F : Fence) (n : Nat) (hf : F.fn 132) (hro : F.round = none) (hn : 1 ≤ n) (p Bs b off l cap : Nat) (r : Nat → Nat) (hl : l ≤ 140737488351232) (J Jx : List Nat → World → Prop)
    (hY : ∀ (pre : List Nat) (x : Nat) (W : World), J pre W → pre.length < l → YieldAt F (n - 1) Try.prog p #[Value.int .i64 (x : Int), Value.int .u64 (r x : Int)] W fun e W' =>
      (e = .returned (.bool true) ∧ J (pre ++ [x]) W' ∧ KeepD Bs b off l W W') ∨ (e = .returned (.bool false) ∧ Jx (pre ++ [x]) W'))
    (W : World) (hBs : W.cell? ⟨Bs, 0, none⟩ = some (.slice (some ⟨b, off, none⟩) l cap)) (hc : ∀ i, i < l → W.cell? ⟨b, off + i, none⟩ = some (.int .u64 (r i : Int))) (h0 : J [] W) :
    CallsIn F n Try.prog 132 #[.func (.yield p) #[] #[], .pointer (some ⟨Bs, 0, none⟩)] W fun e W' => (∃ v, e = .returned v) ∧
      ((∃ ys, ys = downs l l ∧ J ys W') ∨ (∃ pre, (∃ k, k ≤ l ∧ pre = downs l k) ∧ Jx pre W')) := by
  have HC := hide hc
  clear hc
  refine callsIn_of_wp Try.func132 rfl hf ?_ hro
  simp only [Try.ntmps132, List.size_toArray, List.length_cons, List.length_nil, Nat.reduceAdd, Nat.reduceSub, Array.replicate_succ, Array.replicate_zero, List.push_toArray, List.append_toArray, List.nil_append, List.cons_append]
  gi_wp2
  gi_loopw [3] (fun i wr => ∃ k : Nat, k ≤ l ∧ i = .int .i64 ((l : Int) - 1 - (k : Int)) ∧ J (downs l k) wr ∧ KeepD Bs b off l W wr)
    (fun i _ => (intOf i + 1).toNat)
  case atStart => exact ⟨0, Nat.zero_le _, by simp, h0, KeepD.refl _ _ _ _ _⟩
  case round =>
    obtain ⟨k, hk, rfl, hJs, hnx⟩ := hrel
    have c1 := hnx.1.trans hBs
    by_cases hlt : k < l
    · obtain ⟨i, hi⟩ : ∃ i, i = l - 1 - k := ⟨_, rfl⟩
      have hiI : (l : Int) - 1 - (k : Int) = (i : Int) := by omega
      have cx := (hnx.2 i (by omega)).trans (HC.out i (by omega))
      obtain ⟨fn, tmps, assign, body, hy, hR⟩ := hY _ i wr hJs (by rw [downs_length]; exact hlt)
      rw [hiI]
      have hil : (i : Int) < (l : Int) := by omega
      have HX := hide hnx
      have HI := hide hi
      have hic : (i : Int) ≤ 140737488351232 := by omega
      generalize r i = y at *
      clear hJs hnx hi hiI
      gi_wp2
      refine hR.mono ?_
      rintro e W3 (⟨rfl, hJ3, hk3⟩ | ⟨rfl, hJx3⟩)
      · gi_wp2
        go_roundw
        case rel => exact ⟨k + 1, by omega, by have := HI.out; simp; omega, by rw [downs_succ, ← HI.out]; exact hJ3, HX.out.trans hk3⟩
        case measure => simp [intOf]
      · gi_wp2
        refine bodyPost_ret (results_none rfl _ _ _) rfl ?_
        exact ⟨⟨_, rfl⟩, .inr ⟨_, ⟨k + 1, by omega, by rw [downs_succ, ← HI.out]⟩, hJx3⟩⟩
    · have hkE : k = l := by omega
      subst hkE
      have hlt2 : (k : Int) - 1 - (k : Int) = -1 := by omega
      rw [hlt2]
      have HJ := hide hJs
      clear hJs
      gi_wp2
      go_end0
      exact ⟨⟨_, rfl⟩, .inl ⟨_, rfl, HJ.out⟩⟩

set_option maxRecDepth 100000 in
set_option maxHeartbeats 2000000 in
/-- .. of none: no round. -/
theorem back1_nil_in (F : Fence) (n : Nat) (hf : F.fn 132) (hro : F.round = none) (p Bs : Nat) (a : Option Addr) (cap : Nat) (J : List Nat → World → Prop)
    (W : World) (hBs : W.cell? ⟨Bs, 0, none⟩ = some (.slice a 0 cap)) (h0 : J [] W) :
    CallsIn F n Try.prog 132 #[.func (.yield p) #[] #[], .pointer (some ⟨Bs, 0, none⟩)] W fun e W' => (∃ v, e = .returned v) ∧ J [] W' := by
  refine callsIn_of_wp Try.func132 rfl hf ?_ hro
  simp only [Try.ntmps132, List.size_toArray, List.length_cons, List.length_nil, Nat.reduceAdd, Nat.reduceSub, Array.replicate_succ, Array.replicate_zero, List.push_toArray, List.append_toArray, List.nil_append, List.cons_append]
  gi_wp2
  gi_loopw [3] (fun i wr => i = .int .i64 (-1) ∧ J [] wr ∧ wr = W) (fun _ _ => 0)
  case atStart => exact ⟨rfl, h0, rfl⟩
  case round =>
    obtain ⟨rfl, hJs, hw⟩ := hrel
    clear hw
    gi_wp2
    go_end0
    exact ⟨⟨_, rfl⟩, hJs⟩

set_option maxRecDepth 100000 in
theorem back_in (F : Fence) (n : Nat) (hf : F.fn 109) (hro : F.round = none) (a : Option Addr) (len cap : Nat) (w : World) :
    CallsIn F n Try.prog 109 #[.slice a len cap] w fun e w' => e = .returned (.func (.func 132) #[] #[.pointer (some ⟨w.heap.size, 0, none⟩)]) ∧ w' = w.alloc (.cells #[.slice a len cap] 35) := by
  refine callsIn_of_wp Try.func109 rfl hf ?_ hro
  simp only [Try.ntmps109, List.size_toArray, List.length_cons, List.length_nil, Nat.reduceAdd, Nat.reduceSub, Array.replicate_succ, Array.replicate_zero, List.push_toArray, List.append_toArray, List.nil_append, List.cons_append]
  gi_wp2
  go_ret
  exact ⟨rfl, rfl⟩

/-- A list of l words, or none. -/
def WordsV (w : World) (v : Value) (b off l : Nat) (r : Nat → Nat) : Prop := (∃ a cap, v = .slice a 0 cap ∧ l = 0) ∨ (∃ cap, v = .slice (some ⟨b, off, none⟩) l cap ∧ l ≤ 140737488351232 ∧ b < w.heap.size ∧ ∀ i, i < l → w.cell? ⟨b, off + i, none⟩ = some (.int .u64 (r i : Int)))
theorem back_stops (F : Fence) (n : Nat) (hf : F.fn 132) (hro : F.round = none) (hn : 1 ≤ n) (Bs b off l : Nat) (r : Nat → Nat) (v : Value) (w : World) (hv : WordsV w v b off l r) (hs : Bs < w.heap.size) (c1 : w.cell? ⟨Bs, 0, none⟩ = some v) :
    SeqStopsK F n Try.prog 132 #[.pointer (some ⟨Bs, 0, none⟩)] (fun x : Nat => #[Value.int .i64 (x : Int), Value.int .u64 (r x : Int)]) (KeepD Bs b off l) (fun ys => ys = downs l l) (fun pre => ∃ k, k ≤ l ∧ pre = downs l k) l w := fun p J Jx W hW _ _ hY h0 => by
  have d1 := (hW.cell (p := ⟨Bs, 0, none⟩) hs).trans c1
  rcases hv with ⟨a, cap, rfl, rfl⟩ | ⟨cap, rfl, h1, h2, h3⟩
  · exact (back1_nil_in F n hf hro p Bs a cap J W d1 h0).mono fun e W' he => ⟨he.1, .inl ⟨_, rfl, he.2⟩⟩
  · exact back1_in F n hf hro hn p Bs b off l cap r h1 J Jx hY W d1 (fun i hi => (hW.cell (p := ⟨b, off + i, none⟩) h2).trans (h3 i hi)) h0

end Go.Proofs.Ytchdfenickjiiaa
