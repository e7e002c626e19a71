/-
  What is proved here: strconv.AppendUint appends the decimal digits of a number, where the library's table of powers of ten reads as it is laid.
-/
import Derived.Test.YtkmpobmpencefaaDoorUp0
import Derived.Shelf.Strconv.AppendInt10
import Derived.Shelf.Lay
import Derived.Ground.NamesProg
namespace Go.Proofs.YtkmpobmpencefaaDoor
open Go Go.RowKit Go.Shelf

def Tab (w : World) : Prop := Lib.TabIs Tryd.prog w "internal/strconv.uint64pow10" .u64 Lib.pow10Tab
theorem Tab.up {w w' : World} (h : Tab w) (u : Up w w') : Tab w' := Lib.tabBelow_of_tabIs h w' u

shelf_lay LaysM.n288 Nm 288 at Tryd as laysAU

theorem appU (B n u : Nat) (hu64 : u < 18446744073709551616) (sv : Value) (xs : List Value) (w : World) (hown : w.ownsRow B 5 1 sv n xs) (hBw : B ≤ w.heap.size) (hlim : n + 20 ≤ 140737488355328) (htab : Tab w) :
    Calls Tryd.prog 126 #[sv, .int .u64 u, .int .i64 10] w fun e w' => ∃ v', e = .returned v' ∧ w'.ownsRow B 5 1 v' (n + (Lib.decDigits u).length) (xs ++ Lib.byteCells (Lib.decDigits u)) ∧ Below B w w' ∧ Lib.OthersKept 5 none w w' :=
  Any.internal_strconv_AppendUint_10 laysAU B n u hu64 sv xs w hown hBw hlim htab

/-- The digit of u at place i from the left. -/
def dd (u i : Nat) : Nat := u / 10 ^ (Lib.nDigits u - 1 - i) % 10

theorem dec_places (L : Nat) : ∀ u, dec (fun i => u / 10 ^ (L - 1 - i) % 10) L = u % 10 ^ L := by
  induction L with
  | zero => intro u; simp [dec, Nat.mod_one]
  | succ L ih =>
    intro u
    show dec (fun i => u / 10 ^ (L + 1 - 1 - i) % 10) L * 10 + u / 10 ^ (L + 1 - 1 - L) % 10 = _
    rw [dec_congr (e := fun i => u / 10 / 10 ^ (L - 1 - i) % 10) (fun i hi => by
      rw [Nat.div_div_eq_div_mul, Nat.mul_comm, ← Nat.pow_succ, show (L - 1 - i).succ = L + 1 - 1 - i from by omega])]
    rw [ih, show L + 1 - 1 - L = 0 from by omega, Nat.pow_zero, Nat.div_one, Nat.pow_succ]
    have := Nat.mod_mul (a := 10) (b := 10 ^ L) (x := u)
    rw [Nat.mul_comm (10 ^ L) 10]
    omega
theorem ge_nDigits (u : Nat) (hu : 0 < u) : 10 ^ (Lib.nDigits u - 1) ≤ u := by
  induction u using Nat.strongRecOn with
  | _ u ih =>
    by_cases h : u < 10
    · rw [Lib.nDigits_small h]; exact hu
    · rw [Lib.nDigits_big h]
      have h1 := ih (u / 10) (by omega) (by omega)
      have h2 := Lib.nDigits_pos (u / 10)
      obtain ⟨k, hk⟩ : ∃ k, Lib.nDigits (u / 10) = k + 1 := ⟨_, (Nat.sub_add_cancel h2).symm⟩
      rw [hk] at h1 ⊢
      rw [show k + 1 + 1 - 1 = k + 1 from by omega, Nat.pow_succ]
      rw [show k + 1 - 1 = k from by omega] at h1
      omega
theorem nDigits_le (u : Nat) (hu : 0 < u) (h : u < 18446744073709551616) : Lib.nDigits u ≤ 20 := by
  apply Nat.le_of_not_lt
  intro h2
  have h3 := ge_nDigits u hu
  have h4 : 10 ^ 20 ≤ 10 ^ (Lib.nDigits u - 1) := Nat.pow_le_pow_right (by decide) (by omega)
  have h5 : 18446744073709551616 ≤ 10 ^ 20 := by decide
  omega
theorem dd_le (u i : Nat) : dd u i ≤ 9 := by
  unfold dd
  omega
theorem dd_dec (u : Nat) : dec (dd u) (Lib.nDigits u) = u := by
  show dec (fun i => u / 10 ^ (Lib.nDigits u - 1 - i) % 10) (Lib.nDigits u) = u
  rw [dec_places, Nat.mod_eq_of_lt (Lib.lt_pow_nDigits u)]
theorem dd_first (u : Nat) (hu : 0 < u) : dd u 0 ≠ 0 := by
  unfold dd
  rw [Nat.sub_zero]
  have h1 := ge_nDigits u hu
  have h2 := Lib.lt_pow_nDigits u
  have h3 := Lib.nDigits_pos u
  generalize Lib.nDigits u = k at *
  obtain ⟨j, rfl⟩ : ∃ j, k = j + 1 := ⟨k - 1, by omega⟩
  rw [show j + 1 - 1 = j from by omega] at *
  rw [Nat.pow_succ] at h2
  have h4 : 0 < 10 ^ j := Nat.pow_pos (by decide)
  have h5 : u / 10 ^ j < 10 := (Nat.div_lt_iff_lt_mul h4).2 (by rw [Nat.mul_comm]; exact h2)
  have h6 : 1 ≤ u / 10 ^ j := (Nat.le_div_iff_mul_le h4).2 (by omega)
  omega
theorem dd_cells (u j : Nat) (hj : j < Lib.nDigits u) : (Lib.byteCells (Lib.decDigits u))[j]? = some (.int .u8 ((48 + dd u j : Nat) : Int)) := by
  rw [Lib.decDigits_eq]
  unfold Lib.byteCells
  rw [List.getElem?_map, List.getElem?_map, List.getElem?_range hj]
  simp only [Option.map_some, Lib.dg, dd]
  rw [UInt8.toNat_ofNat']
  congr 2
  omega

/-- strconv.AppendUint, on a row of bytes of one's own. -/
def AppTab (u : Nat) : Prop := ∀ (base : Nat) (v : Value) (n : Nat) (t : Nat → Nat) (w : World), Own .u8 5 w base v n t → n + 20 ≤ 140737488355328 → base ≤ w.heap.size → Tab w →
    Calls Tryd.prog 113 #[v, .int .u64 u, .int .i64 10] w fun e w' => ∃ v' L d, e = .returned v' ∧ Own .u8 5 w' base v' (n + L) (glue t (fun i => 48 + d i) n) ∧ Below base w w' ∧ (∀ i, i < L → d i ≤ 9) ∧ 1 ≤ L ∧ L ≤ 20 ∧ d 0 ≠ 0 ∧ dec d L = u

theorem app_tab (u : Nat) (hu : 0 < u) (hu64 : u < 18446744073709551616) : AppTab u := by
  intro base v n t w hv hn hbase htab
  go_enter Tryd.func113, Tryd.ntmps113
  go_wp2_with fail
  refine (appU base n u hu64 v _ _ hv.row hbase hn htab).mono ?_
  rintro e w' ⟨v', rfl, ho, hb, -⟩
  have hl20 := nDigits_le u hu hu64
  go_wp2_with fail
  go_ret
  rw [Lib.decDigits_length] at ho
  refine ⟨v', Lib.nDigits u, dd u, rfl, Own.of_row ho (fun j hj => ?_), hb, fun i _ => dd_le u i, Lib.nDigits_pos u, hl20, dd_first u hu, dd_dec u⟩
  by_cases e : j < n
  · rw [List.getElem?_append_left (by rw [cellsOf_length]; exact e), cellsOf_get _ _ _ _ e, glue_lo e]
  · obtain ⟨k, rfl⟩ : ∃ k, j = n + k := ⟨j - n, by omega⟩
    rw [List.getElem?_append_right (by rw [cellsOf_length]; omega), cellsOf_length, show n + k - n = k from by omega, dd_cells u k (by omega), glue_hi]

end Go.Proofs.YtkmpobmpencefaaDoor
