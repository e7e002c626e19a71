/-
  What is proved here: the document's own Cmp, Sub and Add on limbs of 32 bits.
-/
import Derived.Test.YtdiacbfdfoeemaaDoorRef3
import Derived.Test.YtdiacbfdfoeemaaDoorRef4
import Derived.Test.YtdiacbfdfoeemaaDoorUp0
namespace Go.Proofs.YtdiacbfdfoeemaaDoor
open Go Go.RowKit

set_option maxRecDepth 4000 in
set_option maxHeartbeats 1000000 in
theorem rCmp_any (v u : Value) (n m : Nat) (f g : Nat → Nat) (w : World) (hv : Sl .u32 w v n f) (hu : Sl .u32 w u m g) (hf : ∀ i, i < n → f i < 4294967296) (hg : ∀ i, i < m → g i < 4294967296) (hn : n ≤ 100000000000) (hm : m ≤ 100000000000) :
    Calls Tryd.prog 101 #[v, u] w fun e w' => e = .returned (.int .i64 (cmpN (num 4294967296 f n) (num 4294967296 g m))) ∧ Below w.heap.size w w' := by
  go_enter Tryd.func101, Tryd.ntmps101
  go_wp2_with fail
  refine (half_any _ n f _ hv hf (by omega)).mono ?_
  rintro e w1 ⟨n1, f1, a1, rfl, o1, u1, c1, l1, p1⟩
  replace u1 : Up w w1 := u1
  go_wp2_with fail
  refine (half_any _ m g _ (hu.up u1) hg (by omega)).mono ?_
  rintro e w2 ⟨n2, f2, a2, rfl, o2, u2, c2, l2, p2⟩
  replace u2 : Up w1 w2 := u2
  have P1 := hide p1
  have P2 := hide p2
  clear p1 p2
  go_wp2_with fail
  refine (rcmp_any _ _ n1 n2 f1 f2 _ (o1.sl.up u2) o2.sl c1.1 c2.1 (by omega) (by omega)).mono ?_
  rintro e w3 ⟨rfl, u3⟩
  replace u3 : Up w2 w3 := u3
  go_wp2_with fail
  go_ret
  exact ⟨ret_int (by rw [unhide P1, unhide P2]), u1.tr (u2.tr u3)⟩

set_option maxRecDepth 4000 in
set_option maxHeartbeats 1000000 in
theorem rSub_lt (v u : Value) (n m : Nat) (f g : Nat → Nat) (w : World) (hv : Sl .u32 w v n f) (hu : Sl .u32 w u m g) (hf : ∀ i, i < n → f i < 4294967296) (hg : ∀ i, i < m → g i < 4294967296) (hn : n ≤ 100000000000) (hm : m ≤ 100000000000)
    (hlt : num 4294967296 f n < num 4294967296 g m) :
    Calls Tryd.prog 78 #[v, u] w fun e w' => e = .returned (.tuple #[.slice none 0 0, .bool false]) ∧ Below w.heap.size w w' := by
  go_enter Tryd.func78, Tryd.ntmps78
  go_wp2_with fail
  refine (rCmp_any _ _ n m f g _ hv hu hf hg hn hm).mono ?_
  rintro e w1 ⟨rfl, u1⟩
  rw [cmpN_lt hlt]
  go_wp2_with fail
  go_ret2
  exact ⟨rfl, u1⟩

set_option maxRecDepth 4000 in
set_option maxHeartbeats 1000000 in
theorem rSub_ge (v u : Value) (n m : Nat) (f g : Nat → Nat) (w : World) (hv : Sl .u32 w v n f) (hu : Sl .u32 w u m g) (hf : ∀ i, i < n → f i < 4294967296) (hg : ∀ i, i < m → g i < 4294967296) (hn : n ≤ 100000000000) (hm : m ≤ 100000000000)
    (hle : num 4294967296 g m ≤ num 4294967296 f n) :
    Calls Tryd.prog 78 #[v, u] w fun e w' => ∃ n' f' v', e = .returned (.tuple #[v', .bool true]) ∧ Own .u32 64 w' w.heap.size v' n' f' ∧ Below w.heap.size w w' ∧ Can 4294967296 f' n' ∧ num 4294967296 f' n' + num 4294967296 g m = num 4294967296 f n := by
  have hc0 : ¬ cmpN (num 4294967296 f n) (num 4294967296 g m) < 0 := by unfold cmpN; split <;> (try split) <;> omega
  go_enter Tryd.func78, Tryd.ntmps78
  go_wp2_with fail
  refine (rCmp_any _ _ n m f g _ hv hu hf hg hn hm).mono ?_
  rintro e w0 ⟨rfl, u0⟩
  replace u0 : Up w w0 := u0
  generalize cmpN (num 4294967296 f n) (num 4294967296 g m) = cc at *
  go_wp2_with fail
  refine (half_any _ n f _ (hv.up u0) hf (by omega)).mono ?_
  rintro e w1 ⟨n1, f1, a1, rfl, o1, u1, c1, l1, p1⟩
  replace u1 : Up w0 w1 := u1
  go_wp2_with fail
  refine (half_any _ m g _ (hu.up (u0.tr u1)) hg (by omega)).mono ?_
  rintro e w2 ⟨n2, f2, a2, rfl, o2, u2, c2, l2, p2⟩
  replace u2 : Up w1 w2 := u2
  have hle2 : num 65536 f2 n2 ≤ num 65536 f1 n1 := by rw [p1, p2]; exact hle
  have hlen : n2 ≤ n1 := by
    apply Nat.le_of_not_lt
    intro h
    have := can_lt (B := 65536) (by decide) c1.1 c2 h
    omega
  have P1 := hide p1
  have P2 := hide p2
  clear p1 p2 hle
  go_wp2_with fail
  refine (rsub_any _ _ n1 n2 f1 f2 _ (o1.sl.up u2) o2.sl c1.1 c2.1 hlen (by omega) hle2).mono ?_
  rintro e w3 ⟨n3, f3, a3, rfl, o3, u3, c3, l3, p3⟩
  replace u3 : Up w2 w3 := u3
  have P3 := hide p3
  clear p3 o1 o2
  go_wp2_with fail
  refine (full_any _ n3 f3 _ o3.sl c3.1 (by omega)).mono ?_
  rintro e w4 ⟨n4, f4, a4, rfl, o4, u4, c4, l4, p4⟩
  replace u4 : Up w3 w4 := u4
  have P4 := hide p4
  clear p4 o3
  have z := Below.size (u0.tr (u1.tr (u2.tr u3)))
  go_wp2_with fail
  go_ret2
  exact ⟨n4, f4, a4, rfl, o4.mono z, u0.tr (u1.tr (u2.tr (u3.tr u4))), c4, by rw [unhide P4, ← unhide P1, ← unhide P2]; exact unhide P3⟩

set_option maxRecDepth 4000 in
set_option maxHeartbeats 2000000 in
theorem rAdd_any (k cap M : Nat) (mo : Option Addr) (vs : Nat → Value) (ns : Nat → Nat) (fs : Nat → Nat → Nat) (w : World)
    (hm : Rds w mo k vs) (hs : ∀ i, i < k → Sl .u32 w (vs i) (ns i) (fs i)) (hfs : ∀ j, j < k → ∀ i, i < ns j → fs j i < 4294967296)
    (hns : ∀ j, j < k → ns j ≤ M) (hM : 2 * M + k ≤ 10000000000) :
    Calls Tryd.prog 77 #[.slice mo k cap] w fun e w' => ∃ n' f' v', e = .returned v' ∧ Own .u32 64 w' w.heap.size v' n' f' ∧ Below w.heap.size w w' ∧ Can 4294967296 f' n' ∧ num 4294967296 f' n' = total ns fs k := by
  go_enter Tryd.func77, Tryd.ntmps77
  go_wp2_with fail
  go_loopw [3, 4] (fun u3 t4 wr => ∃ (j n : Nat) (f : Nat → Nat), j ≤ k ∧ t4 = .int .i64 j ∧ Sl .i64 wr u3 n f ∧ Below w.heap.size w wr ∧ (∀ i, i < n → f i < 65536) ∧ n ≤ 2 * M + j ∧ num 65536 f n = total ns fs j) (fun _ t4 _ => k - (intOf t4).toNat)
  case atStart => exact ⟨0, 0, fun _ => 0, Nat.zero_le _, rfl, ⟨none, 0, rfl, Nat.le_refl _, by omega, fun _ => rfl, .inl rfl⟩, Below.refl _ _, fun i hi => by omega, by omega, rfl⟩
  case round =>
    obtain ⟨j, n, f, hj, rfl, hsl, hbel, hd, hn, hnum⟩ := hrel
    have HN := hide hnum
    clear hnum
    have hsz := hbel.size
    by_cases hlt : j < k
    · rcases hm with hm | ⟨b, off, rfl, hc⟩
      · omega
      have hx := (hbel.cell (p := ⟨b, off + j, none⟩) (World.block_lt_of_cell? w _ (hc j hlt))).trans (hc j hlt)
      have sj := (hs j hlt).below hbel (Nat.le_refl _)
      have dj := hfs j hlt
      have lj := hns j hlt
      obtain ⟨aj, cj, ej, -⟩ := id sj
      rw [ej] at sj hx
      clear hc hs hfs hns ej
      go_wp2_with fail
      refine (half_any _ (ns j) (fs j) _ sj dj (by omega)).mono ?_
      rintro e w1 ⟨n1, f1, a1, rfl, o1, u1, c1, l1, p1⟩
      replace u1 : Up wr w1 := u1
      have P1 := hide p1
      clear p1 hx sj
      go_wp2_with fail
      refine (radd_any _ _ n n1 f f1 _ (hsl.up u1) o1.sl hd c1.1 (by omega) (by omega)).mono ?_
      rintro e w2 ⟨n2, f2, a2, rfl, o2, u2, c2, l2, p2⟩
      replace u2 : Up w1 w2 := u2
      have P2 := hide p2
      have s2 := o2.sl
      have B2 : Below w.heap.size w w2 := hbel.trans (Below.mono (u1.tr u2) hsz)
      clear p2 o1 o2
      go_wp2_with fail
      go_roundw
      case rel => exact ⟨j + 1, n2, f2, by omega, by go_num, s2, B2, c2.1, by omega, by rw [unhide P2, unhide HN, unhide P1]; rfl⟩
      case measure => simp [intOf]; omega
    · obtain rfl : j = k := by omega
      go_wp2_with fail
      refine (full_any _ n f _ hsl hd (by omega)).mono ?_
      rintro e w4 ⟨n4, f4, a4, rfl, o4, u4, c4, l4, p4⟩
      have P4 := hide p4
      clear p4
      go_wp2_with fail
      go_ret
      exact ⟨n4, f4, a4, rfl, o4.mono hsz, hbel.trans (Below.mono u4 hsz), c4, by rw [unhide P4]; exact unhide HN⟩

end Go.Proofs.YtdiacbfdfoeemaaDoor
