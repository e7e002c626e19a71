/-
  What is proved here: num.Of of any number: its sign, its limbs in new memory.
-/
import Derived.Test.YtchdfenickjiiaaVTakeT
import Derived.Handy
namespace Go.Proofs.Ytchdfenickjiiaa
open Go Go.RowKit

/-- How many of two limbs count. -/
def len2 (lo hi : Nat) : Nat := if hi = 0 then (if lo = 0 then 0 else 1) else 2

set_option maxRecDepth 20000 in
set_option maxHeartbeats 4000000 in
theorem numberOf2 (W : World) (L lo hi : Nat) (b : Bool) (h : W.heap[L]? = some (.cells #[.int .u32 (lo : Int), .int .u32 (hi : Int)] 57 (0, 0))) :
    Calls Try.prog 105 #[.slice (some ⟨L, 0, none⟩) 2 2, .bool b] W fun e w' => e = .returned (.agg #[.slice (some ⟨L, 0, none⟩) (len2 lo hi) 2, .bool (b && !decide (len2 lo hi = 0))]) ∧ Fr (fun _ => False) W w' := by
  have c0 := cell_of_row W L 0 _ _ _ h
  have c1 := cell_of_row W L 1 _ _ _ h
  have hL := (Array.getElem?_eq_some_iff.1 h).1
  clear h
  by_cases h1 : hi = 0
  · by_cases h0 : lo = 0
    · have e : len2 lo hi = 0 := by simp [len2, h0, h1]
      rw [e]
      subst h0 h1
      cases b <;>
      · go_enter Try.func105, Try.ntmps105
        go_wp2
        refine wp_loop_rounds 3 ?_
        rw [rounds_succ]
        go_wp2
        rw [rounds_succ]
        go_wp2
        rw [rounds_succ]
        go_wp2
        go_returns
        exact ⟨rfl, (Fr.refl _ W).alloc _⟩
    · have e : len2 lo hi = 1 := by simp [len2, h0, h1]
      rw [e]
      subst h1
      have z0 : ((lo : Int) == 0) = false := by rw [beq_eq_false_iff_ne]; omega
      cases b <;>
      · go_enter Try.func105, Try.ntmps105
        go_wp2
        refine wp_loop_rounds 2 ?_
        rw [rounds_succ]
        go_wp2
        rw [rounds_succ]
        go_wp2
        go_returns
        exact ⟨rfl, (Fr.refl _ W).alloc _⟩
  · have e : len2 lo hi = 2 := by simp [len2, h1]
    rw [e]
    have z1 : ((hi : Int) == 0) = false := by rw [beq_eq_false_iff_ne]; omega
    cases b <;>
    · go_enter Try.func105, Try.ntmps105
      go_wp2
      refine wp_loop_rounds 1 ?_
      rw [rounds_succ]
      go_wp2
      go_returns
      exact ⟨rfl, (Fr.refl _ W).alloc _⟩

theorem answer2 (W : World) (a : Option Addr) (l c : Nat) (b : Bool) :
    Calls Try.prog 100 #[.agg #[.slice a l c, .bool b]] W fun e w' => e = .returned (.agg #[.bool b, .slice a l c]) ∧ Fr (fun _ => False) W w' := by
  go_enter Try.func100, Try.ntmps100
  go_wp2_with fail
  go_returns
  exact ⟨rfl, ((Fr.refl _ W).alloc _).alloc _⟩

/-- A number's limbs at the block L: the size of z. -/
def Limbs (w : World) (L : Nat) (z : Int) : Prop := w.heap[L]? = some (.cells #[.int .u32 ((z.natAbs % 4294967296 : Nat) : Int), .int .u32 ((z.natAbs / 4294967296 : Nat) : Int)] 57 (0, 0))
/-- How many limbs it has. -/
def lenZ (z : Int) : Nat := len2 (z.natAbs % 4294967296) (z.natAbs / 4294967296)

theorem two_at (w : World) (x y : Int) (lo hi g : Nat) (hx : x = (lo : Int)) (hy : y = (hi : Int)) (hg : g = w.heap.size) : (w.alloc (.cells #[.int .u32 x, .int .u32 y] 57)).heap[g]? = some (.cells #[.int .u32 (lo : Int), .int .u32 (hi : Int)] 57 (0, 0)) := by
  subst hx hy hg
  exact heap_alloc_new w _

set_option maxRecDepth 20000 in
set_option maxHeartbeats 4000000 in
theorem vof_any (z : Int) (w : World) (h1 : -2305843009213693952 ≤ z) (h2 : z ≤ 2305843009213693951) :
    Calls Try.prog 69 #[.int .i64 z] w fun e w' => ∃ L, e = .returned (.agg #[.bool (decide (z < 0)), .slice (some ⟨L, 0, none⟩) (lenZ z) 2]) ∧ Limbs w' L z ∧ w.heap.size < L ∧ Fr (fun _ => False) w w' := by
  obtain ⟨m, hm⟩ : ∃ m, m = z.natAbs := ⟨_, rfl⟩
  obtain ⟨lo, hlo⟩ : ∃ lo, lo = m % 4294967296 := ⟨_, rfl⟩
  obtain ⟨hi, hhi⟩ : ∃ hi, hi = m / 4294967296 := ⟨_, rfl⟩
  have hlen : lenZ z = len2 lo hi := by unfold lenZ; rw [← hm, ← hlo, ← hhi]
  have hlim : ∀ W L, W.heap[L]? = some (.cells #[.int .u32 (lo : Int), .int .u32 (hi : Int)] 57 (0, 0)) → Limbs W L z := fun W L h => by unfold Limbs; rw [← hm, ← hlo, ← hhi]; exact h
  obtain ⟨nn, hnn⟩ : ∃ nn, nn = len2 lo hi := ⟨_, rfl⟩
  rw [hlen, ← hnn]
  have hmb : m ≤ 2305843009213693952 := by omega
  have KN := fun (W : World) (L : Nat) (b : Bool) h => numberOf2 W L lo hi b h
  rw [← hnn] at KN
  have HL := hide hlim
  clear hlim hlen
  by_cases hz : z < 0
  · have hb : (true && !decide (nn = 0)) = true := by
      have : nn ≠ 0 := by rw [hnn]; unfold len2; split <;> (try split) <;> omega
      simp [this]
    have hw : IntKind.u64.wrap (-IntKind.u64.wrap z) = (m : Int) := by rw [u64w, u64w]; omega
    have hzd : decide (z < 0) = true := by simp [hz]
    rw [hzd]
    clear hm hnn
    go_enter Try.func69, Try.ntmps69
    go_wp2_with fail
    refine (KN _ (w.heap.size + 1) true (two_at _ _ _ _ _ _ (by first | rw [hw] | skip; omega) (by first | rw [hw] | skip; omega) (by simp))).mono ?_
    rintro e w2 ⟨rfl, F2⟩
    have B2 := (F2.block (w.heap.size + 1) (by simp) (fun e => e)).trans (two_at _ _ _ lo hi _ (by first | rw [hw] | skip; omega) (by first | rw [hw] | skip; omega) (by simp))
    have FF : Fr (fun _ => False) w w2 := Fr.trans (((Fr.refl _ w).alloc _).alloc _) F2 (fun _ _ e => e)
    have R2 : w2.heap[w.heap.size]? = some (.cells #[.bool false, .slice none 0 0] 45 (0, 0)) := (F2.block _ (by simp; omega) (fun e => e)).trans ((heap_alloc_old _ _ (r := w.heap.size) (by simp)).trans (heap_alloc_new w _))
    rw [hb]
    go_wp2_with fail
    refine (answer2 w2 _ _ _ _).mono ?_
    rintro e w3 ⟨rfl, F3⟩
    have B3 := (F3.block _ (Array.getElem?_eq_some_iff.1 B2).1 (fun e => e)).trans B2
    have R3 := (F3.block _ (Array.getElem?_eq_some_iff.1 R2).1 (fun e => e)).trans R2
    obtain ⟨z0, z1, d0, d1⟩ := fz2 R3
    have HB3 := hide B3
    have HR3 := hide R3
    have HFF := hide (Fr.trans FF F3 (fun _ _ e => e))
    clear B2 R2 F2 FF F3 B3 R3
    go_wp2_with fail
    obtain ⟨b4, F4⟩ := stoF2 HR3.out (.bool true) (.slice (some ⟨w.heap.size + 1, 0, none⟩) nn 2)
    clear z0 z1 d0 d1
    generalize ((w3.setCell ⟨w.heap.size, 0, none⟩ (.bool true)).setCell ⟨w.heap.size, 1, none⟩ (.slice (some ⟨w.heap.size + 1, 0, none⟩) nn 2)) = wf at *
    have zz := fz2 b4
    refine bodyPost_ret (by simp [results, Try.results69, go_sem, zz.2.2.1, zz.2.2.2]; rfl) rfl ?_
    exact ⟨w.heap.size + 1, rfl, HL.out _ _ ((F4.block _ (Array.getElem?_eq_some_iff.1 HB3.out).1 (by omega)).trans HB3.out), by omega, Fr.trans HFF.out F4 (fun k hk e => by omega)⟩
  · have hb : (false && !decide (nn = 0)) = false := rfl
    have hw : IntKind.u64.wrap z = (m : Int) := by rw [u64w]; omega
    have hzd : decide (z < 0) = false := by simp [hz]
    rw [hzd]
    clear hm hnn
    go_enter Try.func69, Try.ntmps69
    go_wp2_with fail
    refine (KN _ (w.heap.size + 1) false (two_at _ _ _ _ _ _ (by first | rw [hw] | skip; omega) (by first | rw [hw] | skip; omega) (by simp))).mono ?_
    rintro e w2 ⟨rfl, F2⟩
    have B2 := (F2.block (w.heap.size + 1) (by simp) (fun e => e)).trans (two_at _ _ _ lo hi _ (by first | rw [hw] | skip; omega) (by first | rw [hw] | skip; omega) (by simp))
    have FF : Fr (fun _ => False) w w2 := Fr.trans (((Fr.refl _ w).alloc _).alloc _) F2 (fun _ _ e => e)
    have R2 : w2.heap[w.heap.size]? = some (.cells #[.bool false, .slice none 0 0] 45 (0, 0)) := (F2.block _ (by simp; omega) (fun e => e)).trans ((heap_alloc_old _ _ (r := w.heap.size) (by simp)).trans (heap_alloc_new w _))
    rw [hb]
    go_wp2_with fail
    refine (answer2 w2 _ _ _ _).mono ?_
    rintro e w3 ⟨rfl, F3⟩
    have B3 := (F3.block _ (Array.getElem?_eq_some_iff.1 B2).1 (fun e => e)).trans B2
    have R3 := (F3.block _ (Array.getElem?_eq_some_iff.1 R2).1 (fun e => e)).trans R2
    obtain ⟨z0, z1, d0, d1⟩ := fz2 R3
    have HB3 := hide B3
    have HR3 := hide R3
    have HFF := hide (Fr.trans FF F3 (fun _ _ e => e))
    clear B2 R2 F2 FF F3 B3 R3
    go_wp2_with fail
    obtain ⟨b4, F4⟩ := stoF2 HR3.out (.bool false) (.slice (some ⟨w.heap.size + 1, 0, none⟩) nn 2)
    clear z0 z1 d0 d1
    generalize ((w3.setCell ⟨w.heap.size, 0, none⟩ (.bool false)).setCell ⟨w.heap.size, 1, none⟩ (.slice (some ⟨w.heap.size + 1, 0, none⟩) nn 2)) = wf at *
    have zz := fz2 b4
    refine bodyPost_ret (by simp [results, Try.results69, go_sem, zz.2.2.1, zz.2.2.2]; rfl) rfl ?_
    exact ⟨w.heap.size + 1, rfl, HL.out _ _ ((F4.block _ (Array.getElem?_eq_some_iff.1 HB3.out).1 (by omega)).trans HB3.out), by omega, Fr.trans HFF.out F4 (fun k hk e => by omega)⟩

end Go.Proofs.Ytchdfenickjiiaa
