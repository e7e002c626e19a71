/-
  What is proved here: nat.takeTimes takes a multiple of one row of limbs from another in place, and tells whether it had to borrow.
-/
import Derived.Test.YtkmpobmpencefaaDoorDivMath
import Derived.Test.YtkmpobmpencefaaDoorTimes
namespace Go.Proofs.YtkmpobmpencefaaDoor
open Go Go.RowKit

theorem cast_bne (b : Nat) : ((b : Int) != 0) = (b != 0) := by
  rw [Bool.eq_iff_iff, bne_iff_ne, bne_iff_ne]
  omega
theorem ret_bool {a b : Bool} (h : a = b) : Ending.returned (.bool a) = .returned (.bool b) := by rw [h]

set_option maxHeartbeats 1000000 in
theorem takeTimes_any (g off N K n cap capb x : Nat) (f h : Nat → Nat) (bo : Option Addr) (w : World)
    (hrow : RowAt .u32 64 w g N K f) (hoff : off + (n + 1) ≤ K) (hb : Rd .u32 w bo n h) (hsep : ∀ a, bo = some a → n ≠ 0 → a.block ≠ g) (hn : n ≤ 9000000000000000000) (hx : x < 4294967296)
    (hf : ∀ i, i < n + 1 → f (off + i) < 4294967296) (hh : ∀ i, i < n → h i < 4294967296) (hn0 : 0 < n) :
    Calls Tryd.prog 122 #[.slice (some ⟨g, off, none⟩) (n + 1) cap, .slice bo n capb, .int .u32 x] w fun e w' => ∃ (b : Nat) (f' : Nat → Nat), e = .returned (.bool (b != 0)) ∧ b ≤ 1 ∧ RowAt .u32 64 w' g N K f' ∧ Only g w w' ∧
      (∀ i, ¬ (off ≤ i ∧ i < off + (n + 1)) → f' i = f i) ∧ (∀ i, i < n + 1 → f' (off + i) < 4294967296) ∧
      num 4294967296 (fun i => f' (off + i)) (n + 1) + x * num 4294967296 h n = num 4294967296 (fun i => f (off + i)) (n + 1) + b * 4294967296 ^ (n + 1) := by
  rcases hb with hb | ⟨bb, offb, rfl, hc⟩
  · omega
  have hbg : bb ≠ g := hsep _ rfl (by omega)
  clear hsep
  go_enter Tryd.func122, Tryd.ntmps122
  go_wp2
  go_loopw [7, 8, 13] (fun c b t wr => ∃ (k : Nat) (f' : Nat → Nat) (cc bb' : Nat), k ≤ n ∧ t = .int .i64 k ∧ c = .int .u64 cc ∧ b = .int .u32 bb' ∧ RowAt .u32 64 wr g N K f' ∧ Only g w wr ∧ TakeRel f h x off (n + 1) k f' bb' cc) (fun _ _ t _ => n - (intOf t).toNat)
  case atStart => exact ⟨0, f, 0, 0, Nat.zero_le _, rfl, rfl, rfl, hrow, Only.refl _ _, TakeRel.start hf⟩
  case round =>
    obtain ⟨k, f', cc, bo', hk, rfl, rfl, rfl, hr, ho, hrl⟩ := hrel
    have hcc : cc < 4294967296 := hrl.2.1
    have hbo : bo' ≤ 1 := hrl.1
    by_cases hlt : k < n
    · have hz := hr.cell (i := off + k) (by omega)
      have hfr := hr.free (off + k)
      have hy := (ho.cell (p := ⟨bb, offb + k, none⟩) hbg).trans (hc k hlt)
      have hzl : f' (off + k) < 4294967296 := hrl.2.2.2.1 k (by omega)
      have hyl := hh k hlt
      have HS := hide (fun (d b' : Nat) => hrl.step (z := f' (off + k)) (y := h k) (d := d) (b' := b') hx rfl rfl hyl)
      have HR := hide hr
      have HO := hide ho
      clear hrl hr ho hc hh hf hrow
      generalize f' (off + k) = z at *
      generalize h k = y at *
      have hsm := take_small hx hyl hcc
      have hw : IntKind.u64.wrap ((y : Int) * (x : Int)) = ((y * x : Nat) : Int) := wrap_u64_of (by simp) (by omega)
      generalize y * x = p at *
      have HS2 := hide (unhide HS ((z + 4294967296 - (cc + p) % 4294967296 - bo') % 4294967296) (bor z ((cc + p) % 4294967296) bo') (Nat.mod_lt _ (by decide)) (bor_le _ _ _) (bor_eq _ _ _ hzl (Nat.mod_lt _ (by decide)) hbo))
      have HSUB := hide (fun (w' : World) => sub32_any z ((cc + p) % 4294967296) bo' w' hzl (Nat.mod_lt _ (by decide)) hbo)
      clear HS
      go_wp2_with fail
      rw [show (((cc : Int) + (p : Int)) % 4294967296) = (((cc + p) % 4294967296 : Nat) : Int) from by omega]
      refine (unhide HSUB _).mono ?_
      rintro e w2 ⟨rfl, rfl⟩
      have HRS := hide ((unhide HR).set (i := off + k) (by omega) ((z + 4294967296 - (cc + p) % 4294967296 - bo') % 4294967296))
      generalize (z + 4294967296 - (cc + p) % 4294967296 - bo') % 4294967296 = dd at *
      generalize bor z ((cc + p) % 4294967296) bo' = bb2 at *
      go_wp2_with fail
      go_roundw
      case rel => exact ⟨k + 1, _, _, _, by omega, by go_num, by go_num, rfl, unhide HRS, (unhide HO).setCell _ _, unhide HS2⟩
      case measure => simp [intOf]; omega
    · obtain rfl : k = n := by omega
      have hz := hr.cell (i := off + k) (by omega)
      have hfr := hr.free (off + k)
      have hzl : f' (off + k) < 4294967296 := hrl.2.2.2.1 k (by omega)
      have HS2 := hide (hrl.last (z := f' (off + k)) rfl (Nat.mod_lt _ (by decide)) (bor_eq (f' (off + k)) cc bo' hzl hcc hbo))
      have HSUB := hide (fun (w' : World) => sub32_any (f' (off + k)) cc bo' w' hzl hcc hbo)
      have HBL := hide (bor_le (f' (off + k)) cc bo')
      have HR := hide hr
      have HO := hide ho
      clear hrl hr ho hc hh hf hrow
      generalize f' (off + k) = z at *
      go_wp2_with fail
      refine (unhide HSUB _).mono ?_
      rintro e w2 ⟨rfl, rfl⟩
      have HRS := hide ((unhide HR).set (i := off + k) (by omega) ((z + 4294967296 - cc - bo') % 4294967296))
      generalize (z + 4294967296 - cc - bo') % 4294967296 = dd at *
      generalize bor z cc bo' = bb2 at *
      go_wp2_with fail
      go_ret
      exact ⟨bb2, _, ret_bool (cast_bne bb2), unhide HBL, unhide HRS, (unhide HO).setCell _ _, (unhide HS2).1, (unhide HS2).2.1, (unhide HS2).2.2⟩

end Go.Proofs.YtkmpobmpencefaaDoor
