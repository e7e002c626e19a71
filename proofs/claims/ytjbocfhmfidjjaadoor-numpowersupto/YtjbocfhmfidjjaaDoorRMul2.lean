/-
  What is proved here: the document's own product of all that it is handed.
-/
import Derived.Test.YtjbocfhmfidjjaaDoorRMul
import Derived.Test.YtjbocfhmfidjjaaDoorRef5
namespace Go.Proofs.YtjbocfhmfidjjaaDoor
open Go Go.RowKit

theorem rMulLit (w : World) (E : TypeId) : Sl .i64 (w.alloc (.cells #[.int .i64 1] E)) (.slice (some ⟨w.heap.size, 0, none⟩) 1 1) 1 (fun _ => 1) :=
  (row_lit w E .i64 #[.int .i64 1] 1 (fun _ => 1) rfl (fun i hi => by obtain rfl : i = 0 := (by omega); rfl)).sl (by omega)

set_option maxRecDepth 4000 in
set_option maxHeartbeats 1000000 in
theorem rMul_any (k cap : Nat) (mo : Option Addr) (vs : Nat → Value) (ns : Nat → Nat) (fs : Nat → Nat → Nat) (w : World)
    (hm : Rds w mo k vs) (hs : ∀ i, i < k → Sl .u32 w (vs i) (ns i) (fs i)) (hfs : ∀ j, j < k → ∀ i, i < ns j → fs j i < 4294967296)
    (hM : 2 * sumN ns k + k ≤ 10000000000) :
    Calls Tryd.prog 55 #[.slice mo k cap] w fun e w' => ∃ n' f' v', e = .returned v' ∧ Own .u32 64 w' w.heap.size v' n' f' ∧ Below w.heap.size w w' ∧ Can 4294967296 f' n' ∧ num 4294967296 f' n' = prodN (fun i => num 4294967296 (fs i) (ns i)) k := by
  have hsum : ∀ j, j ≤ k → sumN ns j ≤ sumN ns k := by
    intro j hj
    obtain ⟨d, rfl⟩ : ∃ d, k = j + d := ⟨k - j, by omega⟩
    rw [sumN_split]
    omega
  have HSUM := hide hsum
  clear hsum
  go_enter Tryd.func55, Tryd.ntmps55
  go_wp2_with fail
  go_loopw [3, 4] (fun u3 t4 wr => ∃ (j n : Nat) (f : Nat → Nat), j ≤ k ∧ t4 = .int .i64 j ∧ Sl .i64 wr u3 n f ∧ Below w.heap.size w wr ∧ (∀ i, i < n → f i < 65536) ∧ n ≤ 1 + 2 * sumN ns j + j ∧ num 65536 f n = prodN (fun i => num 4294967296 (fs i) (ns i)) j) (fun _ t4 _ => k - (intOf t4).toNat)
  case atStart => exact ⟨0, 1, fun _ => 1, Nat.zero_le _, rfl, rMulLit w _, below_alloc w _, fun i hi => (by decide : (1 : Nat) < 65536), by simp [sumN], by simp [num, prodN]⟩
  case round =>
    obtain ⟨j, n, f, hj, rfl, hsl, hbel, hd, hn, hnum⟩ := hrel
    have HN := hide hnum
    clear hnum
    have hsz := hbel.size
    have hsj := unhide HSUM j hj
    by_cases hlt : j < k
    · have hsj1 := unhide HSUM (j + 1) hlt
      have hsucc : sumN ns (j + 1) = sumN ns j + ns j := rfl
      rcases hm with hm | ⟨b, off, rfl, hc⟩
      · omega
      have hx := (hbel.cell (p := ⟨b, off + j, none⟩) (World.block_lt_of_cell? w _ (hc j hlt))).trans (hc j hlt)
      have sj := (hs j hlt).below hbel (Nat.le_refl _)
      have dj := hfs j hlt
      obtain ⟨aj, cj, ej, -⟩ := id sj
      obtain ⟨a3, c3, e3, -⟩ := id hsl
      subst e3
      rw [ej] at sj hx
      clear hc hs hfs ej
      go_wp2_with fail
      refine (half_any _ (ns j) (fs j) _ sj dj (by omega)).mono ?_
      rintro e w1 ⟨n1, f1, a1, rfl, o1, u1, c1, l1, p1⟩
      replace u1 : Up wr w1 := u1
      have P1 := hide p1
      clear p1 hx sj
      go_wp2_with fail
      refine (rmul_any _ _ n n1 f f1 _ (hsl.up u1) o1.sl hd c1.1 (by omega) (by omega)).mono ?_
      rintro e w2 HX
      obtain ⟨n2, f2, a2, rfl, o2, u2, c2, l2, p2⟩ := unhide HX
      replace u2 : Up w1 w2 := u2
      have P2 := hide p2
      have s2 := o2.sl
      have B2 : Below w.heap.size w w2 := hbel.trans (Below.mono (u1.tr u2) hsz)
      clear p2 o1 o2 HX
      go_wp2_with fail
      go_roundw
      case rel => exact ⟨j + 1, n2, f2, by omega, by go_num, s2, B2, c2.1, by omega, by rw [unhide P2, unhide HN, unhide P1]; rfl⟩
      case measure => simp [intOf]; omega
    · obtain rfl : j = k := by omega
      go_wp2_with fail
      refine (full_any _ n f _ hsl hd (by omega)).mono ?_
      rintro e w4 ⟨n4, f4, a4, rfl, o4, u4, c4, l4, p4⟩
      have P4 := hide p4
      clear p4
      go_wp2_with fail
      go_ret
      exact ⟨n4, f4, a4, rfl, o4.mono hsz, hbel.trans (Below.mono u4 hsz), c4, by rw [unhide P4, unhide HN]⟩

end Go.Proofs.YtjbocfhmfidjjaaDoor
