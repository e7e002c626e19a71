/-
  What is proved here: nat.addInto adds one row of limbs to another in place, and nat.takeFrom takes one from another; nothing else in memory turns.
-/
import Derived.Test.YtkmpobmpencefaaDoorWords
import Derived.Test.YtkmpobmpencefaaDoorAddMath
namespace Go.Proofs.YtkmpobmpencefaaDoor
open Go Go.RowKit

set_option maxHeartbeats 1000000 in
theorem addInto_any (g off N K n m cap capb : Nat) (f h : Nat → Nat) (bo : Option Addr) (w : World)
    (hrow : RowAt .u32 64 w g N K f) (hoff : off + n ≤ K) (hb : Rd .u32 w bo m h) (hsep : ∀ a, bo = some a → m ≠ 0 → a.block ≠ g) (hmn : m ≤ n) (hn : n ≤ 9223372036854775807)
    (hf : ∀ i, i < n → f (off + i) < 4294967296) (hh : ∀ i, i < m → h i < 4294967296) :
    Calls Tryd.prog 123 #[.slice (some ⟨g, off, none⟩) n cap, .slice bo m capb] w fun e w' => ∃ (f' : Nat → Nat) (c : Nat), e = .returned (.int .u32 c) ∧ RowAt .u32 64 w' g N K f' ∧ Only g w w' ∧ AddRel f (cut h m) off n n f' c := by
  by_cases hm0 : m = 0
  · subst hm0
    go_enter Tryd.func123, Tryd.ntmps123
    go_wp2
    refine wp_loop_rounds 1 ?_
    rw [rounds_succ]
    go_wp2
    refine wp_loop_rounds 1 ?_
    rw [rounds_succ]
    go_wp2
    go_ret
    exact ⟨f, 0, rfl, hrow, Only.refl _ _, (AddRel.start hf).rest (by omega) (fun i _ _ => cut_out (by omega))⟩
  rcases hb with hb | ⟨b, offb, rfl, hc⟩
  · exact absurd hb hm0
  have hbg : b ≠ g := hsep _ rfl hm0
  clear hsep
  go_enter Tryd.func123, Tryd.ntmps123
  go_wp2
  go_loopw [5, 11] (fun c t wr => ∃ (k : Nat) (f' : Nat → Nat) (cc : Nat), k ≤ m ∧ t = .int .i64 k ∧ c = .int .u32 cc ∧ RowAt .u32 64 wr g N K f' ∧ Only g w wr ∧ AddRel f (cut h m) off n k f' cc) (fun _ t _ => m - (intOf t).toNat)
  case atStart => exact ⟨0, f, 0, Nat.zero_le _, rfl, rfl, hrow, Only.refl _ _, AddRel.start hf⟩
  case round =>
    obtain ⟨k, f', cc, hk, rfl, rfl, hr, ho, hrl⟩ := hrel
    have hcc : cc ≤ 1 := hrl.1
    by_cases hlt : k < m
    · have hx := hr.cell (i := off + k) (by omega)
      have hfr := hr.free (off + k)
      have hy := (ho.cell (p := ⟨b, offb + k, none⟩) hbg).trans (hc k hlt)
      have hxl : f' (off + k) < 4294967296 := hrl.2.2.1 k (by omega)
      have hyl := hh k hlt
      have HS := hide (hrl.step (x := f' (off + k)) (y := h k) (by omega) rfl (cut_in hlt) hyl)
      have HR := hide hr
      have HO := hide ho
      clear hrl hr ho hc hh hf hrow
      generalize f' (off + k) = x at *
      generalize h k = y at *
      go_wp2_with (go_at_call 111; refine (add32_any _ _ _ _ (by omega) (by omega) (by omega)).mono ?_; rintro e w' ⟨rfl, rfl⟩)
      go_roundw
      case rel => exact ⟨k + 1, _, _, by omega, by go_num, rfl, (unhide HR).set (by omega) _, (unhide HO).setCell _ _, unhide HS⟩
      case measure => simp [intOf]; omega
    · have hkm : k = m := by omega
      subst hkm
      go_wp2
      go_loopw [5, 8] (fun c t wr => ∃ (j : Nat) (f' : Nat → Nat) (cc : Nat), k ≤ j ∧ j ≤ n ∧ t = .int .i64 j ∧ c = .int .u32 cc ∧ RowAt .u32 64 wr g N K f' ∧ Only g w wr ∧ AddRel f (cut h k) off n j f' cc) (fun _ t _ => n - (intOf t).toNat)
      case atStart => exact ⟨k, f', cc, Nat.le_refl _, hmn, rfl, rfl, hr, ho, hrl⟩
      case round =>
        clear hr ho hrl hcc
        obtain ⟨j, f', cc, hj1, hj2, rfl, rfl, hr, ho, hrl⟩ := hrel
        have hcc : cc ≤ 1 := hrl.1
        by_cases hc0 : cc = 0
        · subst hc0
          go_wp2
          go_ret
          exact ⟨f', 0, rfl, hr, ho, hrl.rest hj2 (fun i h1 _ => cut_out (by omega))⟩
        · have hc1 : ((cc : Int) != 0) = true := by rw [bne_iff_ne]; omega
          by_cases hlt : j < n
          · have hx := hr.cell (i := off + j) (by omega)
            have hfr := hr.free (off + j)
            have hxl : f' (off + j) < 4294967296 := hrl.2.2.1 j (by omega)
            have HS := hide (hrl.step (x := f' (off + j)) (y := 0) (by omega) rfl (cut_out hj1) (by decide))
            have HR := hide hr
            have HO := hide ho
            clear hrl hr ho hc hh hf hrow
            generalize f' (off + j) = x at *
            go_wp2_with (go_at_call 111; refine (add32_any _ 0 _ _ (by omega) (by omega) (by omega)).mono ?_; rintro e w' ⟨rfl, rfl⟩)
            go_roundw
            case rel => exact ⟨j + 1, _, _, by omega, by omega, by go_num, rfl, (unhide HR).set (by omega) _, (unhide HO).setCell _ _, unhide HS⟩
            case measure => simp [intOf]; omega
          · have hjn : j = n := by omega
            subst hjn
            go_wp2
            go_ret
            exact ⟨f', cc, rfl, hr, ho, hrl⟩

set_option maxHeartbeats 1000000 in
theorem takeFrom_any (g off N K n m cap capb : Nat) (f h : Nat → Nat) (bo : Option Addr) (w : World)
    (hrow : RowAt .u32 64 w g N K f) (hoff : off + n ≤ K) (hb : Rd .u32 w bo m h) (hsep : ∀ a, bo = some a → m ≠ 0 → a.block ≠ g) (hmn : m ≤ n) (hn : n ≤ 9223372036854775807)
    (hf : ∀ i, i < n → f (off + i) < 4294967296) (hh : ∀ i, i < m → h i < 4294967296) :
    Calls Tryd.prog 115 #[.slice (some ⟨g, off, none⟩) n cap, .slice bo m capb] w fun e w' => e = .returned (.tuple #[]) ∧ ∃ f' c, RowAt .u32 64 w' g N K f' ∧ Only g w w' ∧ SubRel f (cut h m) off n n f' c := by
  by_cases hm0 : m = 0
  · subst hm0
    go_enter Tryd.func115, Tryd.ntmps115
    go_wp2
    refine wp_loop_rounds 1 ?_
    rw [rounds_succ]
    go_wp2
    refine wp_loop_rounds 1 ?_
    rw [rounds_succ]
    go_wp2
    go_end0
    exact ⟨rfl, f, 0, hrow, Only.refl _ _, (SubRel.start hf).rest (by omega) (fun i _ _ => cut_out (by omega))⟩
  rcases hb with hb | ⟨b, offb, rfl, hc⟩
  · exact absurd hb hm0
  have hbg : b ≠ g := hsep _ rfl hm0
  clear hsep
  go_enter Tryd.func115, Tryd.ntmps115
  go_wp2
  go_loopw [4, 10] (fun c t wr => ∃ (k : Nat) (f' : Nat → Nat) (cc : Nat), k ≤ m ∧ t = .int .i64 k ∧ c = .int .u32 cc ∧ RowAt .u32 64 wr g N K f' ∧ Only g w wr ∧ SubRel f (cut h m) off n k f' cc) (fun _ t _ => m - (intOf t).toNat)
  case atStart => exact ⟨0, f, 0, Nat.zero_le _, rfl, rfl, hrow, Only.refl _ _, SubRel.start hf⟩
  case round =>
    obtain ⟨k, f', cc, hk, rfl, rfl, hr, ho, hrl⟩ := hrel
    have hcc : cc ≤ 1 := hrl.1
    by_cases hlt : k < m
    · have hx := hr.cell (i := off + k) (by omega)
      have hfr := hr.free (off + k)
      have hy := (ho.cell (p := ⟨b, offb + k, none⟩) hbg).trans (hc k hlt)
      have hxl : f' (off + k) < 4294967296 := hrl.2.2.1 k (by omega)
      have hyl := hh k hlt
      have HS := hide (hrl.step (x := f' (off + k)) (y := h k) (by omega) rfl (cut_in hlt) (Nat.mod_lt _ (by decide)) (bor_le _ _ _) (bor_eq _ _ _ hxl hyl hcc))
      have HR := hide hr
      have HO := hide ho
      clear hrl hr ho hc hh hf hrow
      generalize f' (off + k) = x at *
      generalize h k = y at *
      go_wp2_with (go_at_call 127; refine (sub32_any _ _ _ _ (by omega) (by omega) (by omega)).mono ?_; rintro e w' ⟨rfl, rfl⟩)
      go_roundw
      case rel => exact ⟨k + 1, _, _, by omega, by go_num, rfl, (unhide HR).set (by omega) _, (unhide HO).setCell _ _, unhide HS⟩
      case measure => simp [intOf]; omega
    · have hkm : k = m := by omega
      subst hkm
      go_wp2
      go_loopw [4, 7] (fun c t wr => ∃ (j : Nat) (f' : Nat → Nat) (cc : Nat), k ≤ j ∧ j ≤ n ∧ t = .int .i64 j ∧ c = .int .u32 cc ∧ RowAt .u32 64 wr g N K f' ∧ Only g w wr ∧ SubRel f (cut h k) off n j f' cc) (fun _ t _ => n - (intOf t).toNat)
      case atStart => exact ⟨k, f', cc, Nat.le_refl _, hmn, rfl, rfl, hr, ho, hrl⟩
      case round =>
        clear hr ho hrl hcc
        obtain ⟨j, f', cc, hj1, hj2, rfl, rfl, hr, ho, hrl⟩ := hrel
        have hcc : cc ≤ 1 := hrl.1
        by_cases hc0 : cc = 0
        · subst hc0
          go_wp2
          go_end0
          exact ⟨rfl, f', 0, hr, ho, hrl.rest hj2 (fun i h1 _ => cut_out (by omega))⟩
        · have hc1 : ((cc : Int) != 0) = true := by rw [bne_iff_ne]; omega
          by_cases hlt : j < n
          · have hx := hr.cell (i := off + j) (by omega)
            have hfr := hr.free (off + j)
            have hxl : f' (off + j) < 4294967296 := hrl.2.2.1 j (by omega)
            have HS := hide (hrl.step (x := f' (off + j)) (y := 0) (by omega) rfl (cut_out hj1) (Nat.mod_lt _ (by decide)) (bor_le _ _ _) (bor_eq _ _ _ hxl (by decide) hcc))
            have HR := hide hr
            have HO := hide ho
            clear hrl hr ho hc hh hf hrow
            generalize f' (off + j) = x at *
            go_wp2_with (go_at_call 127; refine (sub32_any _ 0 _ _ (by omega) (by omega) (by omega)).mono ?_; rintro e w' ⟨rfl, rfl⟩)
            go_roundw
            case rel => exact ⟨j + 1, _, _, by omega, by omega, by go_num, rfl, (unhide HR).set (by omega) _, (unhide HO).setCell _ _, unhide HS⟩
            case measure => simp [intOf]; omega
          · have hjn : j = n := by omega
            subst hjn
            go_wp2
            go_end0
            exact ⟨rfl, f', cc, hr, ho, hrl⟩

end Go.Proofs.YtkmpobmpencefaaDoor
