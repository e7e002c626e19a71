/-
  What is proved here: nat.divideByLimb divides a row of limbs by one limb in place, and answers the rest.
-/
import Derived.Test.YtjbocfhmfidjjaaDoorParse
import Derived.Test.YtjbocfhmfidjjaaDoorWords
import Derived.Test.YtjbocfhmfidjjaaDoorAdd
namespace Go.Proofs.YtjbocfhmfidjjaaDoor
open Go Go.RowKit

theorem num_head (B : Nat) (f : Nat → Nat) (k : Nat) : num B f (k + 1) = f 0 + B * num B (fun i => f (1 + i)) k := by
  rw [Nat.add_comm, num_split]
  simp [num]

/-- From place j on: the digits of f' times d, and the rest r, make the digits of f. -/
def DivRel (f : Nat → Nat) (d n j : Nat) (f' : Nat → Nat) (r : Nat) : Prop :=
  r < d ∧ (∀ i, i < j → f' i = f i) ∧ (∀ i, j ≤ i → i < n → f' i < 4294967296) ∧
  num 4294967296 (fun i => f' (j + i)) (n - j) * d + r = num 4294967296 (fun i => f (j + i)) (n - j)

theorem DivRel.start {f : Nat → Nat} {d n : Nat} (hd : 0 < d) : DivRel f d n n f 0 :=
  ⟨hd, fun _ _ => rfl, fun i h1 h2 => by omega, by simp [num]⟩

theorem DivRel.step {f f' : Nat → Nat} {d n j r x : Nat} (h : DivRel f d n (j + 1) f' r) (hj : j < n) (hx : f' j = x) (hxl : x < 4294967296) :
    DivRel f d n j (upd f' j ((r * 4294967296 + x) / d)) ((r * 4294967296 + x) % d) := by
  obtain ⟨h1, h2, h3, h4⟩ := h
  have hd : 0 < d := by omega
  have hq : (r * 4294967296 + x) / d < 4294967296 := by
    rw [Nat.div_lt_iff_lt_mul hd]
    have : (r + 1) * 4294967296 ≤ d * 4294967296 := Nat.mul_le_mul_right _ h1
    rw [Nat.mul_comm 4294967296 d]
    omega
  refine ⟨Nat.mod_lt _ hd, fun i hi => ?_, fun i hi1 hi2 => ?_, ?_⟩
  · rw [upd_other (by omega)]
    exact h2 i (by omega)
  · by_cases e : i = j
    · rw [e, upd_same]; exact hq
    · rw [upd_other e]; exact h3 i (by omega) hi2
  · have e0 : n - j = n - (j + 1) + 1 := by omega
    rw [e0, num_head, num_head, Nat.add_zero, upd_same]
    have e1 : f j = x := by rw [← hx]; exact (h2 j (by omega)).symm
    rw [e1]
    rw [num_congr (f := fun i => upd f' j ((r * 4294967296 + x) / d) (j + (1 + i))) (g := fun i => f' (j + 1 + i)) (fun i _ => by rw [upd_other (by omega), ← Nat.add_assoc])]
    rw [num_congr (f := fun i => f (j + (1 + i))) (g := fun i => f (j + 1 + i)) (fun i _ => by rw [← Nat.add_assoc])]
    have e2 := Nat.div_add_mod (r * 4294967296 + x) d
    rw [← h4]
    generalize (r * 4294967296 + x) / d = q at *
    generalize (r * 4294967296 + x) % d = s at *
    generalize num 4294967296 (fun i => f' (j + 1 + i)) (n - (j + 1)) = T at *
    rw [Nat.add_mul, Nat.mul_add, Nat.mul_assoc]
    rw [Nat.mul_comm d q] at e2
    omega

theorem DivRel.done {f f' : Nat → Nat} {d n r : Nat} (h : DivRel f d n 0 f' r) : num 4294967296 f' n = num 4294967296 f n / d ∧ r = num 4294967296 f n % d := by
  obtain ⟨h1, h2, h3, h4⟩ := h
  have e0 : ∀ q : Nat → Nat, (fun i => q (0 + i)) = q := fun q => by funext i; rw [Nat.zero_add]
  rw [e0, e0, Nat.sub_zero] at h4
  rw [← h4]
  constructor
  · rw [Nat.mul_comm, Nat.mul_add_div (by omega), Nat.div_eq_of_lt h1, Nat.add_zero]
  · rw [Nat.mul_comm, Nat.mul_add_mod, Nat.mod_eq_of_lt h1]

set_option maxHeartbeats 1000000 in
theorem divideByLimb_any (g N K n cap d : Nat) (f : Nat → Nat) (w : World)
    (hrow : RowAt .u32 64 w g N K f) (hnK : n ≤ K) (hn : n ≤ 9223372036854775807) (hd : 0 < d) (hdl : d < 4294967296)
    (hf : ∀ i, i < n → f i < 4294967296) :
    Calls Tryd.prog 104 #[.slice (some ⟨g, 0, none⟩) n cap, .int .u32 d] w fun e w' => ∃ (f' : Nat → Nat), e = .returned (.int .u32 (num 4294967296 f n % d : Nat)) ∧ RowAt .u32 64 w' g N K f' ∧ Only g w w' ∧ (∀ i, i < n → f' i < 4294967296) ∧ num 4294967296 f' n = num 4294967296 f n / d := by
  go_enter Tryd.func104, Tryd.ntmps104
  go_wp2
  go_loopw [5, 6] (fun c t wr => ∃ (j : Nat) (f' : Nat → Nat) (r : Nat), j ≤ n ∧ t = .int .i64 ((j : Int) - 1) ∧ c = .int .u32 r ∧ RowAt .u32 64 wr g N K f' ∧ Only g w wr ∧ DivRel f d n j f' r) (fun _ t _ => (intOf t + 1).toNat)
  case atStart => exact ⟨n, f, 0, Nat.le_refl _, rfl, rfl, hrow, Only.refl _ _, DivRel.start hd⟩
  case round =>
    obtain ⟨j, f', r, hj, rfl, rfl, hr, ho, hrl⟩ := hrel
    by_cases hj0 : j = 0
    · subst hj0
      go_wp2
      go_ret
      exact ⟨f', by rw [← hrl.done.2]; rfl, hr, ho, fun i hi => hrl.2.2.1 i (by omega) hi, hrl.done.1⟩
    · obtain ⟨i, rfl⟩ : ∃ i, j = i + 1 := ⟨j - 1, by omega⟩
      have hrd : r < d := hrl.1
      have hx := hr.cell (i := i) (by omega)
      have hfr := hr.free i
      have hxl : f' i < 4294967296 := by rw [hrl.2.1 i (by omega)]; exact hf i (by omega)
      have HS := hide (hrl.step (x := f' i) (by omega) rfl hxl)
      have HR := hide hr
      have HO := hide ho
      clear hrl hr ho hf hrow
      generalize f' i = x at *
      rw [show (((i + 1 : Nat) : Int) - 1) = (i : Int) from by omega]
      go_wp2_with (go_at_call 118; refine (div32_any r x d _ hrd hxl hdl).mono ?_; rintro e w' ⟨rfl, rfl⟩)
      go_roundw
      case rel => exact ⟨i, _, _, by omega, by go_num, rfl, (unhide HR).set (by omega) _, ((unhide HO).setCell _ _).drew, unhide HS⟩
      case measure => simp [intOf]

end Go.Proofs.YtjbocfhmfidjjaaDoor
