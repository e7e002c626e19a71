/-
  What is proved here: nat.Cmp tells which of two numbers is less.
-/
import Derived.Test.YtjbocfhmfidjjaaDoorLeaf
import Derived.Deep.QuietTactic
import Derived.BigQuiet
import Derived.Deep.RegionWith
namespace Go.Proofs.YtjbocfhmfidjjaaDoor
open Go Go.RowKit

/-- -1, 0 or 1. -/
def cmpN (x y : Nat) : Int := if x < y then -1 else if y < x then 1 else 0
theorem cmpN_lt {x y : Nat} (h : x < y) : cmpN x y = -1 := by simp [cmpN, h]
theorem cmpN_gt {x y : Nat} (h : y < x) : cmpN x y = 1 := by simp [cmpN, h]; omega
theorem cmpN_eq {x y : Nat} (h : x = y) : cmpN x y = 0 := by simp [cmpN, h]

theorem ret_int {k : IntKind} {a b : Int} (h : a = b) : Ending.returned (.int k a) = .returned (.int k b) := by rw [h]

theorem sign_yes (w : World) : Calls Tryd.prog 84 #[.bool true] w fun e w' => e = .returned (.int .i64 1) ∧ w' = w := by
  go_enter Tryd.func84, Tryd.ntmps84
  go_wp2
  go_ret
  exact ⟨rfl, rfl⟩
theorem sign_no (w : World) : Calls Tryd.prog 84 #[.bool false] w fun e w' => e = .returned (.int .i64 (-1)) ∧ w' = w := by
  go_enter Tryd.func84, Tryd.ntmps84
  go_wp2
  go_ret
  exact ⟨rfl, rfl⟩

set_option maxHeartbeats 1000000 in
theorem cmp_any (v u : Value) (n m : Nat) (f h : Nat → Nat) (w : World) (hv : Sl .u32 w v n f) (hu : Sl .u32 w u m h) (hf : ∀ i, i < n → f i < 4294967296) (hh : ∀ i, i < m → h i < 4294967296) :
    Calls Tryd.prog 62 #[v, u] w fun e w' => e = .returned (.int .i64 (cmpN (num 4294967296 f n) (num 4294967296 h m))) ∧ Below w.heap.size w w' := by
  obtain ⟨ao, cap, rfl, h1, h2, h0, h3⟩ := hv
  obtain ⟨bo, capb, rfl, g1, g2, g0, g3⟩ := hu
  clear h0 g0
  go_enter Tryd.func62, Tryd.ntmps62
  go_wp2_with fail
  refine (trim_any _ _ _ f _ h3 h1 h2).mono ?_
  rintro e w1 ⟨rfl, p, hp, rfl, zp, tp⟩
  go_wp2_with fail
  refine (trim_any _ _ _ h _ g3 g1 g2).mono ?_
  rintro e w1 ⟨rfl, q, hq, rfl, zq, tq⟩
  have e1 := num_tail (B := 4294967296) hp zp
  have e2 := num_tail (B := 4294967296) hq zq
  have cf : Can 4294967296 f p := ⟨fun i hi => hf i (by omega), tp⟩
  have ch : Can 4294967296 h q := ⟨fun i hi => hh i (by omega), tq⟩
  have HE1 := hide e1
  have HE2 := hide e2
  clear e1 e2 zp zq tp tq hf hh
  rcases Nat.lt_trichotomy p q with hpq | hpq | hpq
  · have hb : ((p : Int) != (q : Int)) = true := by rw [bne_iff_ne]; omega
    have hd : decide (q < p) = false := by simp; omega
    have HF := hide (can_lt (by decide) cf.1 ch hpq)
    clear cf ch
    go_wp2_with fail
    refine (sign_no _).mono ?_
    rintro e w1 ⟨rfl, rfl⟩
    go_wp2_with fail
    go_ret
    exact ⟨ret_int (by rw [unhide HE1, unhide HE2, cmpN_lt (unhide HF)]), Below.refl _ _⟩
  · subst hpq
    have hb : ((p : Int) != (p : Int)) = false := by simp
    go_wp2_with fail
    go_loopw [5] (fun t wr => ∃ j : Nat, j ≤ p ∧ t = .int .i64 ((j : Int) - 1) ∧ (∀ i, j ≤ i → i < p → f i = h i) ∧ Below w1.heap.size w1 wr) (fun t _ => (intOf t + 1).toNat)
    case atStart => exact ⟨p, Nat.le_refl _, rfl, fun i _ _ => by omega, Below.refl _ _⟩
    case round =>
      obtain ⟨j, hj, rfl, hsame, hbel⟩ := hrel
      have HSAME := hide hsame
      clear hsame
      by_cases hj0 : j = 0
      · subst hj0
        go_wp2_with fail
        go_ret
        refine ⟨ret_int ?_, hbel⟩
        rw [unhide HE1, unhide HE2, cmpN_eq (num_congr (fun i hi => unhide HSAME i (by omega) hi))]
      · rcases h3 with h3 | ⟨b, off, rfl, hc⟩
        · omega
        rcases g3 with g3 | ⟨b', off', rfl, hc'⟩
        · omega
        obtain ⟨i, rfl⟩ : ∃ i, j = i + 1 := ⟨j - 1, by omega⟩
        have hx := (hbel.cell (p := ⟨b, off + i, none⟩) (Rd.lt hc (by omega))).trans (hc i (by omega))
        have hy := (hbel.cell (p := ⟨b', off' + i, none⟩) (Rd.lt hc' (by omega))).trans (hc' i (by omega))
        have hi0 : (0 : Int) ≤ (i : Int) := by omega
        have hip : (i : Int) < (p : Int) := by omega
        clear hc hc'
        rw [show (((i + 1 : Nat) : Int) - 1) = (i : Int) from by omega]
        rcases Nat.lt_trichotomy (f i) (h i) with hlt | hlt | hlt
        · have HF := hide (num_less (B := 4294967296) cf.1 (show i < p by omega) hlt (fun i h1 h2 => unhide HSAME i (by omega) h2))
          clear cf ch
          generalize f i = x at *
          generalize h i = y at *
          have hb2 : ((x : Int) != (y : Int)) = true := by rw [bne_iff_ne]; omega
          have hd2 : decide (y < x) = false := by simp; omega
          go_wp2_with fail
          go_region
          all_goals go_wp2_with fail
          go_region_with (go_at_call 84; refine (sign_no _).mono ?_; rintro e w2 ⟨rfl, rfl⟩)
          all_goals go_wp2_with fail
          all_goals go_ret
          all_goals exact ⟨ret_int (by rw [unhide HE1, unhide HE2, cmpN_lt (unhide HF)]), by repeat (first | exact hbel | apply Below.drew)⟩
        · have HXY := hide hlt
          rw [← hlt] at hy
          clear hlt cf ch
          generalize f i = x at hx hy
          have hb2 : ((x : Int) != (x : Int)) = false := by simp
          go_wp2_with fail
          go_region
          all_goals go_wp2_with fail
          all_goals go_roundw
          case rel => exact ⟨i, by omega, by go_num, fun i' h1 h2 => by
            by_cases e : i' = i
            · rw [e]; exact unhide HXY
            · exact unhide HSAME i' (by omega) h2, hbel.drew⟩
          case measure => simp [intOf]
        · have HF := hide (num_less (B := 4294967296) ch.1 (show i < p by omega) hlt (fun i h1 h2 => (unhide HSAME i (by omega) h2).symm))
          clear cf ch
          generalize f i = x at *
          generalize h i = y at *
          have hb2 : ((x : Int) != (y : Int)) = true := by rw [bne_iff_ne]; omega
          have hd2 : decide (y < x) = true := by simp; omega
          go_wp2_with fail
          go_region
          all_goals go_wp2_with fail
          go_region_with (go_at_call 84; refine (sign_yes _).mono ?_; rintro e w2 ⟨rfl, rfl⟩)
          all_goals go_wp2_with fail
          all_goals go_ret
          all_goals exact ⟨ret_int (by rw [unhide HE1, unhide HE2, cmpN_gt (unhide HF)]), by repeat (first | exact hbel | apply Below.drew)⟩
  · have hb : ((p : Int) != (q : Int)) = true := by rw [bne_iff_ne]; omega
    have hd : decide (q < p) = true := by simp; omega
    have HF := hide (can_lt (by decide) ch.1 cf hpq)
    clear cf ch
    go_wp2_with fail
    refine (sign_yes _).mono ?_
    rintro e w1 ⟨rfl, rfl⟩
    go_wp2_with fail
    go_ret
    exact ⟨ret_int (by rw [unhide HE1, unhide HE2, cmpN_gt (unhide HF)]), Below.refl _ _⟩

end Go.Proofs.YtjbocfhmfidjjaaDoor
