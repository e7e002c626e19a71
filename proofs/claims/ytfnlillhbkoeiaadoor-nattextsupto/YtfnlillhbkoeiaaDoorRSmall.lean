/-
  What is proved here: the document's own division by ten (small), and its own Bits.
-/
import Derived.Test.YtfnlillhbkoeiaaDoorRMul
import Derived.Test.YtfnlillhbkoeiaaDoorDivLimb
import Derived.Test.YtfnlillhbkoeiaaDoorBits
namespace Go.Proofs.YtfnlillhbkoeiaaDoor
open Go Go.RowKit

/-- From place j on: the digits of q times d, and the rest r, make the digits of f. -/
def SmRel (B : Nat) (f : Nat → Nat) (d n j : Nat) (q : Nat → Nat) (r : Nat) : Prop :=
  r < d ∧ (∀ i, i < n → q i < B) ∧ num B (fun i => q (j + i)) (n - j) * d + r = num B (fun i => f (j + i)) (n - j)
theorem SmRel.step {B : Nat} {f q : Nat → Nat} {d n j r x : Nat} (h : SmRel B f d n (j + 1) q r) (hj : j < n) (hx : f j = x) (hxl : x < B) :
    SmRel B f d n j (upd q j ((r * B + x) / d)) ((r * B + x) % d) := by
  obtain ⟨h1, h3, h4⟩ := h
  have hd : 0 < d := by omega
  have hq : (r * B + x) / d < B := by
    rw [Nat.div_lt_iff_lt_mul hd]
    have : (r + 1) * B ≤ d * B := Nat.mul_le_mul_right _ h1
    rw [Nat.add_mul, Nat.one_mul] at this
    rw [Nat.mul_comm B d]
    omega
  refine ⟨Nat.mod_lt _ hd, fun i hi => ?_, ?_⟩
  · by_cases e : i = j
    · rw [e, upd_same]; exact hq
    · rw [upd_other e]; exact h3 i hi
  · have e0 : n - j = n - (j + 1) + 1 := by omega
    rw [e0, num_head, num_head, Nat.add_zero, upd_same, hx]
    rw [num_congr (f := fun i => upd q j ((r * B + x) / d) (j + (1 + i))) (g := fun i => q (j + 1 + i)) (fun i _ => by rw [upd_other (by omega), ← Nat.add_assoc])]
    rw [num_congr (f := fun i => f (j + (1 + i))) (g := fun i => f (j + 1 + i)) (fun i _ => by rw [← Nat.add_assoc])]
    have e2 := Nat.div_add_mod (r * B + x) d
    rw [← h4]
    generalize (r * B + x) / d = p at *
    generalize (r * B + x) % d = s at *
    generalize num B (fun i => q (j + 1 + i)) (n - (j + 1)) = T at *
    rw [Nat.add_mul, Nat.mul_add, Nat.mul_assoc]
    rw [Nat.mul_comm d p] at e2
    have e3 : B * r = r * B := Nat.mul_comm _ _
    omega
theorem SmRel.done {B : Nat} {f q : Nat → Nat} {d n r : Nat} (h : SmRel B f d n 0 q r) : num B q n = num B f n / d ∧ r = num B f n % d := by
  obtain ⟨h1, h3, h4⟩ := h
  have e0 : ∀ q : Nat → Nat, (fun i => q (0 + i)) = q := fun q => by funext i; rw [Nat.zero_add]
  rw [e0, e0, Nat.sub_zero] at h4
  rw [← h4]
  constructor
  · rw [Nat.mul_comm, Nat.mul_add_div (by omega), Nat.div_eq_of_lt h1, Nat.add_zero]
  · rw [Nat.mul_comm, Nat.mul_add_mod, Nat.mod_eq_of_lt h1]

set_option maxRecDepth 4000 in
set_option maxHeartbeats 1000000 in
theorem small_any (v : Value) (n : Nat) (h : Nat → Nat) (w : World) (hv : Sl .i64 w v n h) (hd : ∀ i, i < n → h i < 65536) (hn : n ≤ 1000000000000) :
    Calls Tryd.prog 59 #[v, .int .i64 10] w fun e w' => ∃ (m : Nat) (q : Nat → Nat) (v' : Value), e = .returned (.tuple #[v', .int .i64 (num 65536 h n % 10 : Nat)]) ∧ Own .i64 3 w' w.heap.size v' m q ∧ Below w.heap.size w w' ∧ Can 65536 q m ∧ m ≤ n ∧ num 65536 q m = num 65536 h n / 10 := by
  obtain ⟨ao, cap, rfl, h1, h2, h0, h3⟩ := hv
  clear h0
  go_enter Tryd.func59, Tryd.ntmps59
  go_wp2_with (at_make; refine wpList_mkI rfl _ _ rfl .i64 .i64 _ _ n rfl rfl rfl rfl (by omega) ?_; intro w1 hr1 hb1)
  go_loopw [7, 8] (fun t7 t8 wr => ∃ (j r : Nat) (q : Nat → Nat), j ≤ n ∧ t8 = .int .i64 ((j : Int) - 1) ∧ t7 = .int .i64 r ∧ RowAt .i64 3 wr w.heap.size n n q ∧ Below w.heap.size w wr ∧ SmRel 65536 h 10 n j q r) (fun _ t8 _ => (intOf t8 + 1).toNat)
  case atStart => exact ⟨n, 0, fun _ => 0, Nat.le_refl _, rfl, rfl, hr1, hb1, ⟨by decide, fun _ _ => (by decide : (0 : Nat) < 65536), by simp [num]⟩⟩
  case round =>
    obtain ⟨j, r, q, hj, rfl, rfl, hr, hb, hrl⟩ := hrel
    clear hr1 hb1
    by_cases hj0 : j = 0
    · subst hj0
      have hq := hrl.2.1
      obtain ⟨e1, e2⟩ := hrl.done
      have HE := hide (And.intro e1 e2)
      have hsz := hb.size
      clear hrl e1 e2
      go_wp2_with fail
      refine (rtrim_any _ n q _ ((hr.own (Nat.le_refl w.heap.size) (by omega)).sl) (by omega)).mono ?_
      rintro e w5 ⟨p, v5, rfl, o5, b5, l5, z5, t5⟩
      go_wp2_with fail
      go_ret2
      refine ⟨p, q, v5, ?_, o5.mono hsz, hb.trans (b5.mono hsz), ⟨fun i hi => hq i (by omega), t5⟩, l5, ?_⟩
      · rw [← (unhide HE).2]
        rfl
      · rw [← num_tail l5 z5]
        exact (unhide HE).1
    · obtain ⟨i, rfl⟩ : ∃ i, j = i + 1 := ⟨j - 1, by omega⟩
      rcases h3 with h3 | ⟨bl, off, rfl, hc⟩
      · omega
      have hbl := Rd.lt hc (by omega)
      have hx := (hb.cell (p := ⟨bl, off + i, none⟩) hbl).trans (hc i (by omega))
      have hxl := hd i (by omega)
      have hrd : r < 10 := hrl.1
      have hfr := hr.free i
      have hcl := hr.cell (i := i) (by omega)
      have HS := hide (hrl.step (x := h i) (by omega) rfl hxl)
      have HR := hide hr
      have HB := hide hb
      clear hrl hr hb hc hd
      generalize h i = x at *
      rw [show (((i + 1 : Nat) : Int) - 1) = (i : Int) from by omega]
      have hdv : Int.tdiv ((r : Int) * 65536 + (x : Int)) 10 = (((r * 65536 + x) / 10 : Nat) : Int) := by
        rw [show ((r : Int) * 65536 + (x : Int)) = ((r * 65536 + x : Nat) : Int) from by omega]
        rfl
      have hmd : Int.tmod ((r : Int) * 65536 + (x : Int)) 10 = (((r * 65536 + x) % 10 : Nat) : Int) := by
        rw [show ((r : Int) * 65536 + (x : Int)) = ((r * 65536 + x : Nat) : Int) from by omega]
        rfl
      go_wp2_with fail
      go_roundw
      case rel => exact ⟨i, _, _, by omega, by go_num, by go_num, (unhide HR).set (by omega) _, (unhide HB).setCell (Nat.le_refl _) _, unhide HS⟩
      case measure => simp [intOf]

end Go.Proofs.YtfnlillhbkoeiaaDoor
