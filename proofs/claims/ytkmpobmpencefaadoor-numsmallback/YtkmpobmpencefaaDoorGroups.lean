/-
  What is proved here: nat.groupsOf answers a number's digits to the base 10^9, the highest not 0; nat.appendGroup appends nine decimal digits.
-/
import Derived.Test.YtkmpobmpencefaaDoorDivLimb
import Derived.Test.YtkmpobmpencefaaDoorParse
namespace Go.Proofs.YtkmpobmpencefaaDoor
open Go Go.RowKit

def lenOf : Value → Nat | .slice _ n _ => n | _ => 0

/-- Behind k groups: V is the k groups and what is left, X, behind them. -/
def GroupRel (V k : Nat) (G : Nat → Nat) (X : Nat) : Prop :=
  (∀ i, i < k → G i < 1000000000) ∧ V = num 1000000000 G k + X * 1000000000 ^ k ∧ (X = 0 → k = 0 ∨ G (k - 1) ≠ 0)

theorem GroupRel.step {V k X : Nat} {G : Nat → Nat} (h : GroupRel V k G X) (hX : 0 < X) : GroupRel V (k + 1) (upd G k (X % 1000000000)) (X / 1000000000) := by
  obtain ⟨h1, h2, h3⟩ := h
  refine ⟨fun i hi => ?_, ?_, fun hz => .inr ?_⟩
  · by_cases e : i = k
    · rw [e, upd_same]; exact Nat.mod_lt _ (by decide)
    · rw [upd_other e]; exact h1 i (by omega)
  · rw [num_succ, upd_same, num_congr (g := G) (fun i hi => upd_other (by omega)), h2, Nat.pow_succ]
    generalize 1000000000 ^ k = P
    have : X % 1000000000 * P + X / 1000000000 * (P * 1000000000) = X * P := by
      rw [Nat.mul_comm P, ← Nat.mul_assoc, ← Nat.add_mul, Nat.mul_comm _ 1000000000, Nat.mod_add_div]
    omega
  · rw [Nat.add_sub_cancel, upd_same]
    omega

/-- So many limbs make at most twice as many groups. -/
theorem GroupRel.few {V k X n : Nat} {G : Nat → Nat} (h : GroupRel V k G X) (hX : 0 < X) (hV : V < 4294967296 ^ n) : k < 2 * n := by
  have h2 := h.2.1
  have h3 : 1 * 1000000000 ^ k ≤ X * 1000000000 ^ k := Nat.mul_le_mul_right _ hX
  have h4 : 4294967296 ^ n ≤ 1000000000 ^ (2 * n) := by
    rw [Nat.pow_mul]
    exact Nat.pow_le_pow_left (by decide) n
  apply Nat.lt_of_not_le
  intro hle
  have h5 : 1000000000 ^ (2 * n) ≤ 1000000000 ^ k := Nat.pow_le_pow_right (by decide) hle
  omega

set_option maxRecDepth 4000 in
set_option maxHeartbeats 2000000 in
theorem groupsOf_any (v : Value) (n : Nat) (f : Nat → Nat) (w : World) (hv : Sl .u32 w v n f) (hf : ∀ i, i < n → f i < 4294967296) (hn : 8 * (n + 1) ≤ 140737488355328) :
    Calls Tryd.prog 112 #[v] w fun e w' => ∃ v' k G, e = .returned v' ∧ Own .u32 64 w' w.heap.size v' k G ∧ Below w.heap.size w w' ∧ Can 1000000000 G k ∧ k ≤ 2 * n ∧ num 1000000000 G k = num 4294967296 f n := by
  obtain ⟨i, hi, hz0, hz1, hz2⟩ := info_parts infoU
  obtain ⟨ao, cap, rfl, h1, h2, h0, h3⟩ := hv
  have hV := num_lt hf
  go_enter Tryd.func112, Tryd.ntmps112
  go_wp2_with fail
  refine (trim_any _ _ _ f _ h3 h1 h2).mono ?_
  rintro e w1 ⟨rfl, p, hp, rfl, zp, tp⟩
  go_wp2_with fail
  refine (clone_any _ _ _ f _ (h3.mono hp) (by omega)).mono ?_
  rintro e w2 ⟨rfl, hr2, hb2⟩
  have HE := hide (num_tail (B := 4294967296) hp zp)
  have hz2' := hb2.size
  have hlt2 := hr2.lt
  go_wp2_with fail
  go_loopw [3, 4] (fun t3 t4 wr => ∃ (m k : Nat) (f' G : Nat → Nat), t3 = .slice (some ⟨w1.heap.size, 0, none⟩) m p ∧ m ≤ p ∧ RowAt .u32 64 wr w1.heap.size p p f' ∧ Can 4294967296 f' m ∧ Own .u32 64 wr (w1.heap.size + 1) t4 k G ∧ Below w1.heap.size w1 wr ∧ w1.heap.size + 1 ≤ wr.heap.size ∧ GroupRel (num 4294967296 f n) k G (num 4294967296 f' m) ∧ k ≤ 2 * n) (fun _ t4 _ => 2 * n - lenOf t4)
  case atStart => exact ⟨p, 0, f, fun _ => 0, rfl, Nat.le_refl _, hr2, ⟨fun i hi => hf i (by omega), tp⟩, .inl ⟨rfl, rfl⟩, hb2, by omega, ⟨fun i hi => by omega, by rw [unhide HE]; simp [num], fun _ => .inl rfl⟩, by omega⟩
  case round =>
    obtain ⟨m, k, f', G, rfl, hm, hr, hc, hown, hbel, hsz, hg, hk⟩ := hrel
    clear hr2 hb2 hlt2 hz2'
    by_cases hm0 : m = 0
    · subst hm0
      go_wp2_with fail
      go_ret
      have hx : num 4294967296 f' 0 = 0 := rfl
      rw [hx] at hg
      exact ⟨_, k, G, rfl, hown.mono (by omega), hbel, ⟨hg.1, hg.2.2 rfl⟩, hk, by rw [hg.2.1]; omega⟩
    · have hX : 0 < num 4294967296 f' m := by
        have := num_ge (B := 4294967296) (f := f') (n := m) (by omega) (by rcases hc.2 with h | h; omega; exact h)
        have : 0 < 4294967296 ^ (m - 1) := Nat.pos_of_ne_zero (by simp)
        omega
      have hfew := hg.few hX hV
      have HG := hide (hg.step hX)
      clear hg
      go_wp2_with fail
      refine (divideByLimb_any _ p p m _ 1000000000 f' _ hr hm (by omega) (by decide) (by decide) hc.1).mono ?_
      rintro e w3 ⟨f3, rfl, hr3, ho3, hd3, hq3⟩
      have hown3 : Own .u32 64 w3 (w1.heap.size + 1) u4 k G := by
        rcases hown with ⟨h, h'⟩ | ⟨g, cp, h, hb, hcp, hrr⟩
        · exact .inl ⟨h, h'⟩
        · exact .inr ⟨g, cp, h, hb, hcp, hrr.block (ho3.block g (by omega))⟩
      have hb3 := Only.below hbel ho3 (Nat.le_refl _)
      have hsz3 : w1.heap.size + 1 ≤ w3.heap.size := by rw [ho3.size]; exact hsz
      have hrow3 := hown3.row
      have HQ := hide hq3
      clear hq3 hown ho3 hr hbel hsz
      go_wp2_with (at_builtin; refine wpList_append_own _ rfl _ _ 24 rfl (w1.heap.size + 1) 64 i (.int .u32 0) 1 4 Tryd.underlying24 hi hz0 hz1 hz2 rfl (by decide) _ _ _ rfl (hrow3.alloc _) ⟨w3.heap.size, 0, none⟩ 1 1 [.int .u32 (num 4294967296 f' m % 1000000000 : Nat)] rfl rfl (cells_one _ _ _) (fun u hu => by simp at hu; subst hu; rfl) (by unfold maxLen; omega) (by omega) (by simp; omega) ?_; intro v4 w4 hown4 hgrow4 hx4)
      have hblk : w4.heap[w1.heap.size]? = w3.heap[w1.heap.size]? :=
        (hgrow4.block _ (by simp; omega) (fun e => by have := (hrow3.lt _ e.symm).1; omega)).trans (Below.heap_alloc w3 _ _ (by omega))
      have hr4 := hr3.block hblk
      have hb4 : Below w1.heap.size w1 w4 := (hb3.alloc (by omega) _).grown hgrow4 (by simp; omega) (fun j hj => by have := (hrow3.lt j hj).1; omega)
      have hsz4 : w1.heap.size + 1 ≤ w4.heap.size := by have := hgrow4.size; simp at this; omega
      have hown5 : Own .u32 64 w4 (w1.heap.size + 1) v4 (k + 1) (upd G k (num 4294967296 f' m % 1000000000)) := Own.of_row hown4 (fun j hj => by
        by_cases e : j = k
        · subst e
          rw [upd_same, List.getElem?_append_right (by rw [cellsOf_length]; exact Nat.le_refl _), cellsOf_length]
          simp
        · rw [upd_other e, List.getElem?_append_left (by rw [cellsOf_length]; omega), cellsOf_get _ _ _ _ (by omega)])
      have hlen : lenOf v4 = k + 1 := by
        rcases hown5 with ⟨h, h'⟩ | ⟨g, cp, h, _⟩
        · omega
        · rw [h]; rfl
      have hlen0 : lenOf u4 = k := by
        rcases hown3 with ⟨h, h'⟩ | ⟨g, cp, h, _⟩
        · rw [h, h']; rfl
        · rw [h]; rfl
      have HL := hide hlen
      have HL0 := hide hlen0
      clear hblk hr3 hb3 hrow3 hown3 hown4 hgrow4 hlen hlen0
      refine (trim_any _ m _ f3 _ (hr4.mono hm).rd hm (by omega)).mono ?_
      rintro e w5 ⟨rfl, q, hq, rfl, zq, tq⟩
      have hnq := num_tail (B := 4294967296) hq zq
      have HN := hide hnq
      clear hnq
      go_wp2_with fail
      go_roundw
      case rel => exact ⟨q, k + 1, f3, _, rfl, by omega, hr4, ⟨fun i hi => hd3 i (by omega), tq⟩, hown5, hb4, hsz4, by rw [← unhide HN, unhide HQ]; exact unhide HG, by omega⟩
      case measure => rw [unhide HL, unhide HL0]; omega

end Go.Proofs.YtkmpobmpencefaaDoor
