/-
  What is proved here: the row's condition on the tables gives what strconv.AppendUint asks; tandemlaw00.Place; a nought ahead of digits.
-/
import Derived.Test.YtkmpobmpencefaaDoorText2
import Derived.Test.YtkmpobmpencefaaDoorRows
namespace Go.Proofs.YtkmpobmpencefaaDoor
open Go Go.RowKit

theorem pow10_data : (Rows.laid_internal_strconv_uint64pow10 : DataW Unit) = Lib.tabData .u64 Lib.pow10Tab := by rfl

set_option maxRecDepth 100000 in
theorem tab_of_laid {w : World} (h : laidMetH Tryd.prog Rows.numSumsRow.laid w) : Tab w := by
  have h2 : laidMet Tryd.prog Rows.numSumsRow.laid w := h
  obtain ⟨ps, ⟨_, _, _, _, _, q1, _, _, _, _, ⟨_, _, _, _, _, q2, _, _, _, _, ⟨g, t, cs, fuel, p, q, hg, ht, hvar, hd, _, _⟩, _⟩, _⟩, _⟩ := h2
  have hg' : Tryd.prog.globalNamed "internal/strconv.uint64pow10" = some 1 := by kernel_rfl
  have ht' : (Tryd.prog.globals[1]?).map (·.type) = some 133 := by kernel_rfl
  obtain rfl := Option.some.inj (hg'.symm.trans hg)
  obtain rfl := Option.some.inj (ht'.symm.trans ht)
  rw [pow10_data] at hd
  unfold Tab Lib.TabIs
  rw [hvar, ← Lib.cells_of_tab (n := 20) (e := 59) (by kernel_rfl) (by kernel_rfl) (by kernel_rfl) (by kernel_rfl) hd]

theorem place9 (z : Int) (w : World) : Calls Tryd.prog 46 #[.int .i64 z, .int .i64 9] w fun e w' => ∃ k : Nat, e = .returned (.int .i64 (k : Int)) ∧ w' = w ∧ k < 9 := by
  have h1 := Int.tmod_lt_of_pos z (show (0 : Int) < 9 by decide)
  have h2 : -9 < Int.tmod z 9 := Int.lt_tmod_of_pos z (by decide)
  go_enter Tryd.func46, Tryd.ntmps46
  generalize hr : Int.tmod z 9 = r at *
  rcases Int.lt_or_le r 0 with hn | hn
  · go_wp2
    go_ret
    exact ⟨(r + 9).toNat, by go_num, rfl, by omega⟩
  · go_wp2
    go_ret
    exact ⟨r.toNat, by go_num, rfl, by omega⟩

/-- s is a text of digits that say x. -/
def Digs (s : ByteArray) (x : Nat) : Prop := ∃ d : Nat → Nat, 1 ≤ s.size ∧ (∀ i (h : i < s.size), s[i].toNat = 48 + d i ∧ d i ≤ 9) ∧ dec d s.size = x
theorem Says.digs {s : ByteArray} {x : Nat} (h : Says s x) : Digs s x := by
  obtain ⟨d, h1, h2, h3, _⟩ := h
  exact ⟨d, h1, h2, h3⟩
theorem Digs.zero {s : ByteArray} {x : Nat} (h : Digs s x) : Digs (⟨#[48]⟩ ++ s) x ∧ (⟨#[48]⟩ ++ s : ByteArray).size = s.size + 1 := by
  obtain ⟨d, h1, h2, h3⟩ := h
  have hs : (⟨#[48]⟩ ++ s : ByteArray).size = s.size + 1 := by
    rw [ByteArray.size_append]
    show 1 + s.size = _
    omega
  refine ⟨⟨fun i => if i = 0 then 0 else d (i - 1), by omega, fun i hi => ?_, ?_⟩, hs⟩
  · by_cases e : i = 0
    · subst e
      rw [ByteArray.getElem_append_left (by decide)]
      exact ⟨rfl, by simp⟩
    · obtain ⟨j, rfl⟩ : ∃ j, i = j + 1 := ⟨i - 1, by omega⟩
      rw [ByteArray.getElem_append_right (show (⟨#[48]⟩ : ByteArray).size ≤ j + 1 from by show 1 ≤ j + 1; omega)]
      have e1 : j + 1 - (⟨#[48]⟩ : ByteArray).size = j := by show j + 1 - 1 = j; omega
      have e2 : (if j + 1 = 0 then 0 else d (j + 1 - 1)) = d j := by rw [if_neg (by omega), Nat.add_sub_cancel]
      have h3 := h2 j (by omega)
      simp only [e1, e2]
      exact h3
  · rw [hs, Nat.add_comm, dec_split]
    rw [dec_congr (d := fun i => if 1 + i = 0 then 0 else d (1 + i - 1)) (e := d) (fun i _ => by rw [if_neg (by omega), show 1 + i - 1 = i from by omega])]
    simp [dec, h3]

end Go.Proofs.YtkmpobmpencefaaDoor
