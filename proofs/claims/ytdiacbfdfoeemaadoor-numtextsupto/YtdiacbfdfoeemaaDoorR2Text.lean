/-
  What is proved here: the document's own digits of a number (chapter 2), by values.
-/
import Derived.Test.YtdiacbfdfoeemaaDoorR2Con
import Derived.Test.YtdiacbfdfoeemaaDoorRText
import Derived.Test.YtdiacbfdfoeemaaDoorNText
import Derived.Test.YtdiacbfdfoeemaaDoorNAwake
namespace Go.Proofs.YtdiacbfdfoeemaaDoor
open Go Go.RowKit

theorem says_size {t : ByteArray} {x n : Nat} (h : Says t x) (hx : x < 4294967296 ^ n) : t.size ≤ 10 * n + 1 := by
  obtain ⟨d, a1, a2, a3, a4⟩ := h
  rcases a4 with h1 | h0
  · omega
  apply Nat.le_of_not_lt
  intro hlt
  have h1 := dec_ge a1 h0
  have h2 : 10 ^ (10 * n) ≤ 10 ^ (t.size - 1) := Nat.pow_le_pow_right (by decide) (by omega)
  have h3 : (4294967296 : Nat) ^ n ≤ (10 ^ 10) ^ n := Nat.pow_le_pow_left (by decide) n
  rw [← Nat.pow_mul] at h3
  omega

set_option maxRecDepth 4000 in
set_option maxHeartbeats 4000000 in
theorem r2text_rd {X : Int} {M : Nat} {w : World} {a : Value} (ha : RdD X M w a) (hM : 2 * M + 3 ≤ 10000000000) :
    Calls Tryd.prog 45 #[a] w fun e w' => ∃ s, e = .returned (.string s) ∧ SaysZ s X ∧ Up w w' := by
  obtain ⟨b0, ao0, n0, cap0, rfl⟩ := ha.agg
  have U0 := up_alloc w (.cells #[.bool b0, .slice ao0 n0 cap0] 26)
  have K0 := hide (heap_alloc_new w (.cells #[.bool b0, .slice ao0 n0 cap0] 26))
  have HA := hide ha
  clear ha
  go_enter Tryd.func45, Tryd.ntmps45
  go_wp2_with fail
  refine (r2canon_rd ((unhide HA).up U0) (by omega)).mono ?_
  rintro e w1 ⟨v1, rfl, ⟨b, n, f, ⟨v, rfl, o⟩, c, l, s⟩, u1⟩
  obtain ⟨ao, cap, rfl, -⟩ := id o.sl
  obtain ⟨d0, d1, f0, f1, -⟩ := cells2 (Up.blk u1 (unhide K0))
  obtain ⟨t1, k1⟩ := sto_two (Up.blk u1 (unhide K0)) (.bool b) (.slice ao n cap)
  obtain ⟨c0, c1, -⟩ := cells2 k1
  have u2 : Up w _ := t1.up (U0.tr u1) (Nat.le_refl _)
  have o2 := o.keep (fun b hb _ => t1.block b (by simp at hb; omega))
  have hp : b = true → X < 0 := by
    intro hb
    have hn := c.2 hb
    have hq : 0 < num 4294967296 f n := by
      rcases c.1.2 with h0 | h0
      · omega
      · have := num_ge (B := 4294967296) (f := f) (n := n) (by omega) h0
        have h1 : 0 < (4294967296 : Nat) ^ (n - 1) := Nat.pow_pos (by decide)
        omega
    rw [← s, hb]
    simp only [sgn]
    simp
    omega
  have HS := hide (And.intro s hp)
  clear s hp
  cases b
  · go_wp2_with fail
    refine (rtext_any _ n f _ o2.sl c.1.1 (by omega)).mono ?_
    rintro e w3 ⟨t, rfl, u3, h3⟩
    have u3 : Up _ w3 := u3
    have hts : t.size ≤ 100000000000 := by have := says_size h3 (num_lt_pow c.1.1 l); omega
    have H3 := hide h3
    clear h3
    go_wp2_with fail
    go_ret
    refine ⟨_, rfl, .inl ?_, u2.tr u3⟩
    rw [← (unhide HS).1]
    have := unhide H3
    simp only [sgn]
    simpa using this
  · go_wp2_with fail
    refine (rtext_any _ n f _ o2.sl c.1.1 (by omega)).mono ?_
    rintro e w3 ⟨t, rfl, u3, h3⟩
    have u3 : Up _ w3 := u3
    have hts : t.size ≤ 100000000000 := by have := says_size h3 (num_lt_pow c.1.1 l); omega
    have H3 := hide h3
    clear h3
    go_wp2_with fail
    go_ret
    refine ⟨_, rfl, .inr ⟨(unhide HS).2 (by simp), t, rfl, ?_⟩, u2.tr u3⟩
    rw [← (unhide HS).1]
    have := unhide H3
    simp only [sgn]
    simpa using this

end Go.Proofs.YtdiacbfdfoeemaaDoor
