/-
  What is proved here: plain facts on adding and taking digit by digit, with a carry; no walk. nat.addInto adds one row of limbs to another in place, and nat.takeFrom takes one from another; nothing else in memory turns. tandemlaw00.CopyLimbs, tandemlaw01.c and nat.clone hand back the limbs that they were handed, in new memory; tandemlaw01.same tells that two lists are the same. nat.Add answers the canonical limbs of the sum of all that it is handed, in new memory, for fewer than 2^32 lists that fit a machine.
-/
import Derived.Test.YtjbocfhmfidjjaaDoorBase
import Derived.Test.YtjbocfhmfidjjaaDoorWords
import Derived.Test.YtjbocfhmfidjjaaDoorLeaf
import Derived.Laws.CopyOwn
import Derived.Laws.AppendOwnNone
namespace Go.Proofs.YtjbocfhmfidjjaaDoor
open Go Go.RowKit

/-- Behind k digits: the first k digits of the row (from place 'off' on) hold f's and h's sum but for the carry c; all else in the row is f's. -/
def AddRel (f h : Nat → Nat) (off n k : Nat) (f' : Nat → Nat) (c : Nat) : Prop :=
  c ≤ 1 ∧ (∀ i, ¬ (off ≤ i ∧ i < off + k) → f' i = f i) ∧ (∀ i, i < n → f' (off + i) < 4294967296) ∧
  num 4294967296 (fun i => f' (off + i)) k + c * 4294967296 ^ k = num 4294967296 (fun i => f (off + i)) k + num 4294967296 h k

theorem AddRel.start {f h : Nat → Nat} {off n : Nat} (hf : ∀ i, i < n → f (off + i) < 4294967296) : AddRel f h off n 0 f 0 :=
  ⟨by omega, fun _ _ => rfl, hf, by simp [num]⟩

theorem AddRel.step {f h f' : Nat → Nat} {off n k c x y : Nat} (r : AddRel f h off n k f' c) (_hk : k < n) (hx : f' (off + k) = x) (hy : h k = y) (hyl : y < 4294967296) :
    AddRel f h off n (k + 1) (upd f' (off + k) ((x + y + c) % 4294967296)) ((x + y + c) / 4294967296) := by
  obtain ⟨h1, h2, h3, h4⟩ := r
  have hxl : x < 4294967296 := by rw [← hx]; exact h3 k (by omega)
  refine ⟨by omega, fun i hi => ?_, fun i hi => ?_, ?_⟩
  · rw [upd_other (by omega)]
    exact h2 i (by omega)
  · by_cases e : i = k
    · rw [e, upd_same]; exact Nat.mod_lt _ (by decide)
    · rw [upd_other (by omega)]; exact h3 i hi
  · rw [num_succ, num_succ, num_succ, upd_same]
    rw [num_congr (g := fun i => f' (off + i)) (fun i hi => upd_other (by omega))]
    have e1 : f (off + k) = x := by rw [← hx]; exact (h2 _ (by omega)).symm
    rw [e1, hy, Nat.pow_succ]
    generalize 4294967296 ^ k = P at *
    have e2 : (x + y + c) % 4294967296 * P + (x + y + c) / 4294967296 * (P * 4294967296) = (x + y + c) * P := by
      rw [Nat.mul_comm P, ← Nat.mul_assoc, ← Nat.add_mul, Nat.mul_comm _ 4294967296, Nat.mod_add_div]
    rw [Nat.add_mul, Nat.add_mul] at e2
    omega

theorem AddRel.full {f h f' : Nat → Nat} {off n c : Nat} (r : AddRel f h off n n f' c) :
    num 4294967296 (fun i => f' (off + i)) n + c * 4294967296 ^ n = num 4294967296 (fun i => f (off + i)) n + num 4294967296 h n := r.2.2.2

/-- No carry is left: the higher digits stand. -/
theorem AddRel.rest {f h f' : Nat → Nat} {off n k : Nat} (r : AddRel f h off n k f' 0) (hk : k ≤ n) (hz : ∀ i, k ≤ i → i < n → h i = 0) : AddRel f h off n n f' 0 := by
  obtain ⟨h1, h2, h3, h4⟩ := r
  refine ⟨h1, fun i hi => h2 i (by omega), h3, ?_⟩
  obtain ⟨d, rfl⟩ : ∃ d, n = k + d := ⟨n - k, by omega⟩
  rw [num_tail (n := k) (m := k + d) hk hz, num_split, num_split 4294967296 (fun i => f (off + i))]
  rw [num_congr (g := fun i => f (off + (k + i))) (n := d) (fun i hi => h2 _ (by omega))]
  omega

/-- Behind k digits: f less h, but for what was borrowed. -/
def SubRel (f h : Nat → Nat) (off n k : Nat) (f' : Nat → Nat) (c : Nat) : Prop :=
  c ≤ 1 ∧ (∀ i, ¬ (off ≤ i ∧ i < off + k) → f' i = f i) ∧ (∀ i, i < n → f' (off + i) < 4294967296) ∧
  num 4294967296 (fun i => f' (off + i)) k + num 4294967296 h k = num 4294967296 (fun i => f (off + i)) k + c * 4294967296 ^ k

theorem SubRel.start {f h : Nat → Nat} {off n : Nat} (hf : ∀ i, i < n → f (off + i) < 4294967296) : SubRel f h off n 0 f 0 :=
  ⟨by omega, fun _ _ => rfl, hf, by simp [num]⟩

theorem SubRel.step {f h f' : Nat → Nat} {off n k c x y d b : Nat} (r : SubRel f h off n k f' c) (_hk : k < n) (hx : f' (off + k) = x) (hy : h k = y) (hd : d < 4294967296) (hb : b ≤ 1) (hs : d + y + c = x + 4294967296 * b) :
    SubRel f h off n (k + 1) (upd f' (off + k) d) b := by
  obtain ⟨h1, h2, h3, h4⟩ := r
  refine ⟨hb, fun i hi => ?_, fun i hi => ?_, ?_⟩
  · rw [upd_other (by omega)]
    exact h2 i (by omega)
  · by_cases e : i = k
    · rw [e, upd_same]; exact hd
    · rw [upd_other (by omega)]; exact h3 i hi
  · rw [num_succ, num_succ, num_succ, upd_same]
    rw [num_congr (g := fun i => f' (off + i)) (fun i hi => upd_other (by omega))]
    have e1 : f (off + k) = x := by rw [← hx]; exact (h2 _ (by omega)).symm
    rw [e1, hy, Nat.pow_succ]
    generalize 4294967296 ^ k = P at *
    have e2 : (d + y + c) * P = (x + 4294967296 * b) * P := by rw [hs]
    rw [Nat.add_mul, Nat.add_mul, Nat.add_mul] at e2
    have e3 : 4294967296 * b * P = b * (P * 4294967296) := by rw [Nat.mul_comm 4294967296 b, Nat.mul_assoc, Nat.mul_comm 4294967296 P]
    omega

theorem SubRel.rest {f h f' : Nat → Nat} {off n k : Nat} (r : SubRel f h off n k f' 0) (hk : k ≤ n) (hz : ∀ i, k ≤ i → i < n → h i = 0) : SubRel f h off n n f' 0 := by
  obtain ⟨h1, h2, h3, h4⟩ := r
  refine ⟨h1, fun i hi => h2 i (by omega), h3, ?_⟩
  obtain ⟨d, rfl⟩ : ∃ d, n = k + d := ⟨n - k, by omega⟩
  rw [num_tail (n := k) (m := k + d) hk hz, num_split, num_split 4294967296 (fun i => f (off + i))]
  rw [num_congr (g := fun i => f (off + (k + i))) (n := d) (fun i hi => h2 _ (by omega))]
  omega

/-- h, and noughts from m on. -/
def cut (h : Nat → Nat) (m : Nat) : Nat → Nat := fun i => if i < m then h i else 0
theorem cut_in {h : Nat → Nat} {m i : Nat} (hi : i < m) : cut h m i = h i := by simp [cut, hi]
theorem cut_out {h : Nat → Nat} {m i : Nat} (hi : m ≤ i) : cut h m i = 0 := by simp [cut]; omega
theorem num_cut {B : Nat} {h : Nat → Nat} {m n : Nat} (hn : m ≤ n) : num B (cut h m) n = num B h m := by
  rw [num_tail hn (fun i h1 _ => cut_out h1), num_congr (g := h) (fun i hi => cut_in hi)]

set_option maxHeartbeats 1000000 in
theorem addInto_any (g off N K n m cap capb : Nat) (f h : Nat → Nat) (bo : Option Addr) (w : World)
    (hrow : RowAt .u32 64 w g N K f) (hoff : off + n ≤ K) (hb : Rd .u32 w bo m h) (hsep : ∀ a, bo = some a → m ≠ 0 → a.block ≠ g) (hmn : m ≤ n) (hn : n ≤ 9223372036854775807)
    (hf : ∀ i, i < n → f (off + i) < 4294967296) (hh : ∀ i, i < m → h i < 4294967296) :
    Calls Tryd.prog 123 #[.slice (some ⟨g, off, none⟩) n cap, .slice bo m capb] w fun e w' => ∃ (f' : Nat → Nat) (c : Nat), e = .returned (.int .u32 c) ∧ RowAt .u32 64 w' g N K f' ∧ Only g w w' ∧ AddRel f (cut h m) off n n f' c := by
  by_cases hm0 : m = 0
  · subst hm0
    go_enter Tryd.func123, Tryd.ntmps123
    go_wp2
    refine wp_loop_rounds 1 ?_
    rw [rounds_succ]
    go_wp2
    refine wp_loop_rounds 1 ?_
    rw [rounds_succ]
    go_wp2
    go_ret
    exact ⟨f, 0, rfl, hrow, Only.refl _ _, (AddRel.start hf).rest (by omega) (fun i _ _ => cut_out (by omega))⟩
  rcases hb with hb | ⟨b, offb, rfl, hc⟩
  · exact absurd hb hm0
  have hbg : b ≠ g := hsep _ rfl hm0
  clear hsep
  go_enter Tryd.func123, Tryd.ntmps123
  go_wp2
  go_loopw [5, 11] (fun c t wr => ∃ (k : Nat) (f' : Nat → Nat) (cc : Nat), k ≤ m ∧ t = .int .i64 k ∧ c = .int .u32 cc ∧ RowAt .u32 64 wr g N K f' ∧ Only g w wr ∧ AddRel f (cut h m) off n k f' cc) (fun _ t _ => m - (intOf t).toNat)
  case atStart => exact ⟨0, f, 0, Nat.zero_le _, rfl, rfl, hrow, Only.refl _ _, AddRel.start hf⟩
  case round =>
    obtain ⟨k, f', cc, hk, rfl, rfl, hr, ho, hrl⟩ := hrel
    have hcc : cc ≤ 1 := hrl.1
    by_cases hlt : k < m
    · have hx := hr.cell (i := off + k) (by omega)
      have hfr := hr.free (off + k)
      have hy := (ho.cell (p := ⟨b, offb + k, none⟩) hbg).trans (hc k hlt)
      have hxl : f' (off + k) < 4294967296 := hrl.2.2.1 k (by omega)
      have hyl := hh k hlt
      have HS := hide (hrl.step (x := f' (off + k)) (y := h k) (by omega) rfl (cut_in hlt) hyl)
      have HR := hide hr
      have HO := hide ho
      clear hrl hr ho hc hh hf hrow
      generalize f' (off + k) = x at *
      generalize h k = y at *
      go_wp2_with (go_at_call 111; refine (add32_any _ _ _ _ (by omega) (by omega) (by omega)).mono ?_; rintro e w' ⟨rfl, rfl⟩)
      go_roundw
      case rel => exact ⟨k + 1, _, _, by omega, by go_num, rfl, (unhide HR).set (by omega) _, (unhide HO).setCell _ _, unhide HS⟩
      case measure => simp [intOf]; omega
    · have hkm : k = m := by omega
      subst hkm
      go_wp2
      go_loopw [5, 8] (fun c t wr => ∃ (j : Nat) (f' : Nat → Nat) (cc : Nat), k ≤ j ∧ j ≤ n ∧ t = .int .i64 j ∧ c = .int .u32 cc ∧ RowAt .u32 64 wr g N K f' ∧ Only g w wr ∧ AddRel f (cut h k) off n j f' cc) (fun _ t _ => n - (intOf t).toNat)
      case atStart => exact ⟨k, f', cc, Nat.le_refl _, hmn, rfl, rfl, hr, ho, hrl⟩
      case round =>
        clear hr ho hrl hcc
        obtain ⟨j, f', cc, hj1, hj2, rfl, rfl, hr, ho, hrl⟩ := hrel
        have hcc : cc ≤ 1 := hrl.1
        by_cases hc0 : cc = 0
        · subst hc0
          go_wp2
          go_ret
          exact ⟨f', 0, rfl, hr, ho, hrl.rest hj2 (fun i h1 _ => cut_out (by omega))⟩
        · have hc1 : ((cc : Int) != 0) = true := by rw [bne_iff_ne]; omega
          by_cases hlt : j < n
          · have hx := hr.cell (i := off + j) (by omega)
            have hfr := hr.free (off + j)
            have hxl : f' (off + j) < 4294967296 := hrl.2.2.1 j (by omega)
            have HS := hide (hrl.step (x := f' (off + j)) (y := 0) (by omega) rfl (cut_out hj1) (by decide))
            have HR := hide hr
            have HO := hide ho
            clear hrl hr ho hc hh hf hrow
            generalize f' (off + j) = x at *
            go_wp2_with (go_at_call 111; refine (add32_any _ 0 _ _ (by omega) (by omega) (by omega)).mono ?_; rintro e w' ⟨rfl, rfl⟩)
            go_roundw
            case rel => exact ⟨j + 1, _, _, by omega, by omega, by go_num, rfl, (unhide HR).set (by omega) _, (unhide HO).setCell _ _, unhide HS⟩
            case measure => simp [intOf]; omega
          · have hjn : j = n := by omega
            subst hjn
            go_wp2
            go_ret
            exact ⟨f', cc, rfl, hr, ho, hrl⟩

set_option maxHeartbeats 1000000 in
theorem takeFrom_any (g off N K n m cap capb : Nat) (f h : Nat → Nat) (bo : Option Addr) (w : World)
    (hrow : RowAt .u32 64 w g N K f) (hoff : off + n ≤ K) (hb : Rd .u32 w bo m h) (hsep : ∀ a, bo = some a → m ≠ 0 → a.block ≠ g) (hmn : m ≤ n) (hn : n ≤ 9223372036854775807)
    (hf : ∀ i, i < n → f (off + i) < 4294967296) (hh : ∀ i, i < m → h i < 4294967296) :
    Calls Tryd.prog 115 #[.slice (some ⟨g, off, none⟩) n cap, .slice bo m capb] w fun e w' => e = .returned (.tuple #[]) ∧ ∃ f' c, RowAt .u32 64 w' g N K f' ∧ Only g w w' ∧ SubRel f (cut h m) off n n f' c := by
  by_cases hm0 : m = 0
  · subst hm0
    go_enter Tryd.func115, Tryd.ntmps115
    go_wp2
    refine wp_loop_rounds 1 ?_
    rw [rounds_succ]
    go_wp2
    refine wp_loop_rounds 1 ?_
    rw [rounds_succ]
    go_wp2
    go_end0
    exact ⟨rfl, f, 0, hrow, Only.refl _ _, (SubRel.start hf).rest (by omega) (fun i _ _ => cut_out (by omega))⟩
  rcases hb with hb | ⟨b, offb, rfl, hc⟩
  · exact absurd hb hm0
  have hbg : b ≠ g := hsep _ rfl hm0
  clear hsep
  go_enter Tryd.func115, Tryd.ntmps115
  go_wp2
  go_loopw [4, 10] (fun c t wr => ∃ (k : Nat) (f' : Nat → Nat) (cc : Nat), k ≤ m ∧ t = .int .i64 k ∧ c = .int .u32 cc ∧ RowAt .u32 64 wr g N K f' ∧ Only g w wr ∧ SubRel f (cut h m) off n k f' cc) (fun _ t _ => m - (intOf t).toNat)
  case atStart => exact ⟨0, f, 0, Nat.zero_le _, rfl, rfl, hrow, Only.refl _ _, SubRel.start hf⟩
  case round =>
    obtain ⟨k, f', cc, hk, rfl, rfl, hr, ho, hrl⟩ := hrel
    have hcc : cc ≤ 1 := hrl.1
    by_cases hlt : k < m
    · have hx := hr.cell (i := off + k) (by omega)
      have hfr := hr.free (off + k)
      have hy := (ho.cell (p := ⟨b, offb + k, none⟩) hbg).trans (hc k hlt)
      have hxl : f' (off + k) < 4294967296 := hrl.2.2.1 k (by omega)
      have hyl := hh k hlt
      have HS := hide (hrl.step (x := f' (off + k)) (y := h k) (by omega) rfl (cut_in hlt) (Nat.mod_lt _ (by decide)) (bor_le _ _ _) (bor_eq _ _ _ hxl hyl hcc))
      have HR := hide hr
      have HO := hide ho
      clear hrl hr ho hc hh hf hrow
      generalize f' (off + k) = x at *
      generalize h k = y at *
      go_wp2_with (go_at_call 127; refine (sub32_any _ _ _ _ (by omega) (by omega) (by omega)).mono ?_; rintro e w' ⟨rfl, rfl⟩)
      go_roundw
      case rel => exact ⟨k + 1, _, _, by omega, by go_num, rfl, (unhide HR).set (by omega) _, (unhide HO).setCell _ _, unhide HS⟩
      case measure => simp [intOf]; omega
    · have hkm : k = m := by omega
      subst hkm
      go_wp2
      go_loopw [4, 7] (fun c t wr => ∃ (j : Nat) (f' : Nat → Nat) (cc : Nat), k ≤ j ∧ j ≤ n ∧ t = .int .i64 j ∧ c = .int .u32 cc ∧ RowAt .u32 64 wr g N K f' ∧ Only g w wr ∧ SubRel f (cut h k) off n j f' cc) (fun _ t _ => n - (intOf t).toNat)
      case atStart => exact ⟨k, f', cc, Nat.le_refl _, hmn, rfl, rfl, hr, ho, hrl⟩
      case round =>
        clear hr ho hrl hcc
        obtain ⟨j, f', cc, hj1, hj2, rfl, rfl, hr, ho, hrl⟩ := hrel
        have hcc : cc ≤ 1 := hrl.1
        by_cases hc0 : cc = 0
        · subst hc0
          go_wp2
          go_end0
          exact ⟨rfl, f', 0, hr, ho, hrl.rest hj2 (fun i h1 _ => cut_out (by omega))⟩
        · have hc1 : ((cc : Int) != 0) = true := by rw [bne_iff_ne]; omega
          by_cases hlt : j < n
          · have hx := hr.cell (i := off + j) (by omega)
            have hfr := hr.free (off + j)
            have hxl : f' (off + j) < 4294967296 := hrl.2.2.1 j (by omega)
            have HS := hide (hrl.step (x := f' (off + j)) (y := 0) (by omega) rfl (cut_out hj1) (Nat.mod_lt _ (by decide)) (bor_le _ _ _) (bor_eq _ _ _ hxl (by decide) hcc))
            have HR := hide hr
            have HO := hide ho
            clear hrl hr ho hc hh hf hrow
            generalize f' (off + j) = x at *
            go_wp2_with (go_at_call 127; refine (sub32_any _ 0 _ _ (by omega) (by omega) (by omega)).mono ?_; rintro e w' ⟨rfl, rfl⟩)
            go_roundw
            case rel => exact ⟨j + 1, _, _, by omega, by omega, by go_num, rfl, (unhide HR).set (by omega) _, (unhide HO).setCell _ _, unhide HS⟩
            case measure => simp [intOf]; omega
          · have hjn : j = n := by omega
            subst hjn
            go_wp2
            go_end0
            exact ⟨rfl, f', cc, hr, ho, hrl⟩

theorem infoU : (Tryd.prog.info? 64).map (fun i => (i.zero, i.size, i.bytes)) = some (some (.int .u32 0), 1, 4) := by kernel_rfl
theorem infoI : (Tryd.prog.info? 3).map (fun i => (i.zero, i.size, i.bytes)) = some (some (.int .i64 0), 1, 8) := by kernel_rfl

theorem Below.of_grown {w w' : World} (h : w.grownBy w' none) : Below w.heap.size w w' :=
  (Below.refl _ _).grown h (Nat.le_refl _) (fun k hk => by cases hk)

/-- make([]uint32, n): a block of its own, all noughts. -/
theorem wpList_mkU {w : World} {ops : Array Oper} {rest : List Oper} {o : Oper} {a : Act} {Q : Exit → Act → World → Prop}
    (hg : o.guard = none) (l c : Operand) (hop : o.op = Op.makeSlice 24 l c)
    (kl kc : IntKind) (L C : Int) (n : Nat) (hl : a.eval l = .int kl L) (hc : a.eval c = .int kc C) (hL : L = (n : Int)) (hC : C = (n : Int)) (b2 : 4 * n ≤ 281474976710656)
    (hK : ∀ w', RowAt .u32 64 w' w.heap.size n n (fun _ => 0) → Below w.heap.size w w' → wpList Tryd.prog ops Q rest (a.put o.dst (.slice (some ⟨w.heap.size, 0, none⟩) n n)) w') :
    wpList Tryd.prog ops Q (o :: rest) a w := by
  obtain ⟨i, hi, hz0, hz1, hz2⟩ := info_parts infoU
  refine wpList_make_full w hg l c 24 hop w.heap.size 64 i (.int .u32 0) 1 Tryd.underlying24 hi hz0 hz1 kl kc L C n hl hc hL hC (by rw [hz2]; exact b2) (by unfold maxLen; omega) (Nat.le_refl _) ?_
  intro w' hown hgrow
  refine hK w' ?_ (Below.of_grown hgrow)
  have ho : Own .u32 64 w' w.heap.size (.slice (some ⟨w.heap.size, 0, none⟩) n n) n (fun _ => 0) :=
    Own.of_row hown (fun j hj => by
      rw [show (Value.int .u32 0).cells = #[Value.int .u32 0] from rfl, toList_madeCells_one]
      simp [hj])
  rcases ho with ⟨h, _⟩ | ⟨g, cap, h, _, _, hr⟩
  · cases h
  · cases h
    exact hr
/-- make([]uint32, n, N): a block of its own, all noughts, n of them in sight. -/
theorem wpList_mkUc {w : World} {ops : Array Oper} {rest : List Oper} {o : Oper} {a : Act} {Q : Exit → Act → World → Prop}
    (hg : o.guard = none) (l c : Operand) (hop : o.op = Op.makeSlice 24 l c)
    (kl kc : IntKind) (L C : Int) (n N : Nat) (hl : a.eval l = .int kl L) (hc : a.eval c = .int kc C) (hL : L = (n : Int)) (hC : C = (N : Int)) (hnN : n ≤ N) (b2 : 4 * N ≤ 281474976710656)
    (hK : ∀ w', RowAt .u32 64 w' w.heap.size N n (fun _ => 0) → Below w.heap.size w w' → wpList Tryd.prog ops Q rest (a.put o.dst (.slice (some ⟨w.heap.size, 0, none⟩) n N)) w') :
    wpList Tryd.prog ops Q (o :: rest) a w := by
  obtain ⟨i, hi, hz0, hz1, hz2⟩ := info_parts infoU
  have hrun := run_make (P := Tryd.prog) w 24 64 i (.int .u32 0) Tryd.underlying24 hi hz0 kl kc n N (by omega) (by omega) (by rw [hz2]; omega) (by omega)
  simp only [Int.toNat_natCast, hz1, Nat.mul_one] at hrun
  subst hL hC
  refine wpList_plain hg fun K hK' => ?_
  unfold Oper.wp
  simp [execOp, hop, hl, hc, hrun, Result.andThen]
  refine hK' _ _ (hK _ ⟨madeCells (Value.int .u32 0).cells N, heap_alloc_new w _, size_madeCells _ _, hnN, fun i hi => ?_⟩ ((Below.refl _ _).alloc (Nat.le_refl _) _))
  have : i < N := by omega
  simp [madeCells, this, Nat.mod_one, Value.cells]
/-- make([]int, n). -/
theorem wpList_mkI {w : World} {ops : Array Oper} {rest : List Oper} {o : Oper} {a : Act} {Q : Exit → Act → World → Prop}
    (hg : o.guard = none) (l c : Operand) (hop : o.op = Op.makeSlice 88 l c)
    (kl kc : IntKind) (L C : Int) (n : Nat) (hl : a.eval l = .int kl L) (hc : a.eval c = .int kc C) (hL : L = (n : Int)) (hC : C = (n : Int)) (b2 : 8 * n ≤ 281474976710656)
    (hK : ∀ w', RowAt .i64 3 w' w.heap.size n n (fun _ => 0) → Below w.heap.size w w' → wpList Tryd.prog ops Q rest (a.put o.dst (.slice (some ⟨w.heap.size, 0, none⟩) n n)) w') :
    wpList Tryd.prog ops Q (o :: rest) a w := by
  obtain ⟨i, hi, hz0, hz1, hz2⟩ := info_parts infoI
  refine wpList_make_full w hg l c 88 hop w.heap.size 3 i (.int .i64 0) 1 Tryd.underlying88 hi hz0 hz1 kl kc L C n hl hc hL hC (by rw [hz2]; exact b2) (by unfold maxLen; omega) (Nat.le_refl _) ?_
  intro w' hown hgrow
  refine hK w' ?_ (Below.of_grown hgrow)
  have ho : Own .i64 3 w' w.heap.size (.slice (some ⟨w.heap.size, 0, none⟩) n n) n (fun _ => 0) :=
    Own.of_row hown (fun j hj => by
      rw [show (Value.int .i64 0).cells = #[Value.int .i64 0] from rfl, toList_madeCells_one]
      simp [hj])
  rcases ho with ⟨h, _⟩ | ⟨g, cap, h, _, _, hr⟩
  · cases h
  · cases h
    exact hr

theorem cellsOf_read {k : IntKind} {w : World} {b off n : Nat} {f : Nat → Nat} (hc : ∀ i, i < n → w.cell? ⟨b, off + i, none⟩ = some (.int k (f i))) : ∀ j u, (cellsOf k f n)[j]? = some u → w.cell? ((⟨b, off, none⟩ : Addr).add j) = some u := by
  intro j u hj
  have hl : j < n := by
    have := (List.getElem?_eq_some_iff.1 hj).1
    simpa [cellsOf] using this
  rw [cellsOf_get k f n j hl] at hj
  rw [Addr.add_lit, hc j hl]
  exact hj

/-- Where what is read lies, as the laws on copy and append ask it. -/
theorem Rd.cells {k : IntKind} {w : World} {ao : Option Addr} {n : Nat} {f : Nat → Nat} (h : Rd k w ao n f) : 0 < n → ∃ b off, ao = some ⟨b, off, none⟩ ∧ b < w.heap.size ∧ ∀ j u, (cellsOf k f n)[j]? = some u → w.cell? ((⟨b, off, none⟩ : Addr).add j) = some u := by
  intro hn
  rcases h with h | ⟨b, off, rfl, hc⟩
  · omega
  · exact ⟨b, off, rfl, Rd.lt hc hn, cellsOf_read hc⟩

theorem cells_below {k : IntKind} {w w' : World} {b off n : Nat} {f : Nat → Nat} (hb : Below w.heap.size w w') (hl : b < w.heap.size) (hc : ∀ j u, (cellsOf k f n)[j]? = some u → w.cell? ((⟨b, off, none⟩ : Addr).add j) = some u) :
    ∀ j u, (cellsOf k f n)[j]? = some u → w'.cell? ((⟨b, off, none⟩ : Addr).add j) = some u := by
  intro j u hj
  rw [hb.cell (p := (⟨b, off, none⟩ : Addr).add j) (by rw [Addr.add_lit]; exact hl)]
  exact hc j u hj

set_option maxHeartbeats 400000 in
theorem clone_any (ao : Option Addr) (n cap : Nat) (f : Nat → Nat) (w : World) (h : Rd .u32 w ao n f) (hn : 4 * n ≤ 281474976710656) :
    Calls Tryd.prog 103 #[.slice ao n cap] w fun e w' => e = .returned (.slice (some ⟨w.heap.size, 0, none⟩) n n) ∧ RowAt .u32 64 w' w.heap.size n n f ∧ Below w.heap.size w w' := by
  have hcs := cellsOf_length .u32 f n
  have hmin : (cellsOf .u32 f n).length = Nat.min n n := by rw [hcs]; exact (Nat.min_self n).symm
  go_enter Tryd.func103, Tryd.ntmps103
  go_wp2_with (first
    | (at_make; refine wpList_mkU rfl _ _ rfl .i64 .i64 _ _ n rfl rfl rfl rfl hn ?_; intro w1 hr hb; obtain ⟨cur, h1, h2, h3, h4⟩ := id hr; have h1' : w1.heap[w.heap.size]? = some (.cells cur.toList.toArray 64 (0, 0)) := (by simpa using h1))
    | (refine wpList_copy_splice rfl (.tmp 7) (.tmp 8) 24 24 rfl 64 Tryd.underlying24 (by kernel_rfl) _ _ _ _ _ _ rfl rfl w.heap.size 0 cur.toList 64 h1' (cellsOf .u32 f n) hmin (fun hp => ⟨rfl, by rw [hcs] at hp; obtain ⟨b, off, e, hl, hc⟩ := h.cells hp; exact ⟨_, e, cells_below hb hl hc⟩⟩) (by rw [hcs]; simp; omega) (cellsOf_one _ _ _) w.heap.size w hb (Nat.le_refl _) ?_; intro w2 HG hb2; clear h1 h1' hr hb))
  go_ret
  refine ⟨rfl, ⟨_, HG.out, ?_, Nat.le_refl _, fun i hi => ?_⟩, hb2⟩
  · simp [splice, hcs]; omega
  · simp only [splice, List.take_zero, List.nil_append, hcs, Nat.zero_add]
    rw [List.getElem?_toArray, List.getElem?_append_left (by rw [hcs]; exact hi), cellsOf_get _ _ _ _ hi]

set_option maxHeartbeats 400000 in
theorem copy_any (ao : Option Addr) (n cap : Nat) (f : Nat → Nat) (w : World) (h : Rd .u32 w ao n f) (ha : ao = none → cap = 0) (hn : 4 * n ≤ 140737488355328) :
    Calls Tryd.prog 58 #[.slice ao n cap] w fun e w' => ∃ v, e = .returned v ∧ Own .u32 64 w' w.heap.size v n f ∧ Below w.heap.size w w' := by
  obtain ⟨i, hi, hz0, hz1, hz2⟩ := info_parts infoU
  have hcs := cellsOf_length .u32 f n
  have hnil := World.ownsRow_nil w w.heap.size 64 1
  by_cases h0 : n = 0
  · subst h0
    cases ao with
    | none =>
      obtain rfl := ha rfl
      go_enter Tryd.func58, Tryd.ntmps58
      go_wp2_with (at_builtin; refine wpList_append_own_none rfl _ _ 24 rfl w.heap.size 64 i 1 Tryd.underlying24 hi _ _ _ rfl hnil rfl ?_)
      go_ret
      exact ⟨_, rfl, .inl ⟨rfl, rfl⟩, Below.refl _ _⟩
    | some ad =>
      go_enter Tryd.func58, Tryd.ntmps58
      go_wp2_with (at_builtin; refine wpList_append_own _ rfl _ _ 24 rfl w.heap.size 64 i (.int .u32 0) 1 4 Tryd.underlying24 hi hz0 hz1 hz2 rfl (by decide) _ _ _ rfl hnil ad 0 _ [] rfl rfl (fun j u hj => by simp at hj) (fun u hu => by simp at hu) (by unfold maxLen; omega) (by omega) (Nat.le_refl _) ?_; intro v' w1 hown hgrow hx; simp only [Nat.zero_add, List.nil_append] at hown)
      go_ret
      exact ⟨v', rfl, Own.of_row hown (fun j hj => by omega), Below.of_grown hgrow⟩
  · obtain ⟨b, off, rfl, hl, hc⟩ := h.cells (by omega)
    go_enter Tryd.func58, Tryd.ntmps58
    go_wp2_with (at_builtin; refine wpList_append_own _ rfl _ _ 24 rfl w.heap.size 64 i (.int .u32 0) 1 4 Tryd.underlying24 hi hz0 hz1 hz2 rfl (by decide) _ _ _ rfl hnil ⟨b, off, none⟩ n _ (cellsOf .u32 f n) rfl (by rw [hcs]; omega) hc (cellsOf_one _ _ _) (by unfold maxLen; omega) (by omega) (Nat.le_refl _) ?_; intro v' w1 hown hgrow hx; simp only [Nat.zero_add, List.nil_append] at hown)
    go_ret
    exact ⟨v', rfl, Own.of_row hown (fun j hj => cellsOf_get _ _ _ _ hj), Below.of_grown hgrow⟩

theorem cells_one (w : World) (a : Value) (E : TypeId) : ∀ j u, [a][j]? = some u → (w.alloc (.cells #[a] E)).cell? ((⟨w.heap.size, 0, none⟩ : Addr).add j) = some u := by
  intro j u hj
  rw [Addr.add_lit, cell_of_row _ _ _ _ _ _ (heap_alloc_new w _), Nat.zero_add]
  simpa using hj

/-- m slices, read from an address on. -/
def Rds (w : World) (mo : Option Addr) (m : Nat) (vs : Nat → Value) : Prop :=
  m = 0 ∨ ∃ b off, mo = some ⟨b, off, none⟩ ∧ ∀ i, i < m → w.cell? ⟨b, off + i, none⟩ = some (vs i)

theorem Rds.below {B : Nat} {w w' : World} {mo : Option Addr} {m : Nat} {vs : Nat → Value} (h : Rds w mo m vs) (hb : Below B w w') (hB : w.heap.size ≤ B) : Rds w' mo m vs := by
  rcases h with h | ⟨b, off, rfl, hc⟩
  · exact .inl h
  · by_cases hn : m = 0
    · exact .inl hn
    · have hl : b < w.heap.size := World.block_lt_of_cell? w _ (hc 0 (by omega))
      exact .inr ⟨b, off, rfl, fun i hi => (hb.cell (p := ⟨b, off + i, none⟩) (by show b < B; omega)).trans (hc i hi)⟩

/-- The sum of the first k lists' numbers. -/
def total (ns : Nat → Nat) (fs : Nat → Nat → Nat) : Nat → Nat
  | 0 => 0
  | k + 1 => total ns fs k + num 4294967296 (fs k) (ns k)

theorem num_lt_pow {f : Nat → Nat} {n L : Nat} (h : ∀ i, i < n → f i < 4294967296) (hL : n ≤ L) : num 4294967296 f n < 4294967296 ^ L :=
  Nat.lt_of_lt_of_le (num_lt h) (Nat.pow_le_pow_right (by decide) hL)

theorem num_push {B : Nat} {f : Nat → Nat} {n x : Nat} : num B (upd f n x) (n + 1) = num B f n + x * B ^ n := by
  rw [num_succ, upd_same, num_congr (g := f) (fun i hi => upd_other (by omega))]

set_option maxHeartbeats 1000000 in
/-- Adding a list to a row of limbs of the call's own, with room for what is carried out of it. -/
theorem addGrowing_any (g cap n m capb : Nat) (f h : Nat → Nat) (bo : Option Addr) (w : World)
    (hrow : RowAt .u32 64 w g cap n f) (hb : Rd .u32 w bo m h) (hsep : ∀ a, bo = some a → m ≠ 0 → a.block ≠ g) (hmn : m ≤ n) (hn : cap ≤ 9223372036854775807)
    (hf : ∀ i, i < n → f i < 4294967296) (hh : ∀ i, i < m → h i < 4294967296) (hfit : num 4294967296 f n + num 4294967296 h m < 4294967296 ^ cap) :
    Calls Tryd.prog 116 #[.slice (some ⟨g, 0, none⟩) n cap, .slice bo m capb] w fun e w' => ∃ (n' : Nat) (f' : Nat → Nat), e = .returned (.slice (some ⟨g, 0, none⟩) n' cap) ∧ n ≤ n' ∧ RowAt .u32 64 w' g cap n' f' ∧ Below g w w' ∧ (∀ i, i < n' → f' i < 4294967296) ∧ num 4294967296 f' n' = num 4294967296 f n + num 4294967296 h m := by
  obtain ⟨i, hi, hz0, hz1, hz2⟩ := info_parts infoU
  have hncap := hrow.le
  have hlt := hrow.lt
  have HFIT := hide hfit
  clear hfit
  go_enter Tryd.func116, Tryd.ntmps116
  go_wp2_with fail
  refine (addInto_any g 0 cap n n m cap capb f h bo w hrow (by omega) hb hsep hmn (by omega) (by simpa using hf) hh).mono ?_
  rintro e w1 ⟨f1, c, rfl, hr1, ho1, hrel⟩
  obtain ⟨h4, h5, h6, h7⟩ := hrel
  simp only [Nat.zero_add] at h6
  have e0 : ∀ q : Nat → Nat, (fun i => q (0 + i)) = q := fun q => by funext i; rw [Nat.zero_add]
  rw [num_cut hmn, e0, e0] at h7
  have HE := hide h7
  have hb1 : Below g w w1 := Only.below (Below.refl _ _) ho1 (Nat.le_refl _)
  have HSZ := hide ho1.size
  clear h7 h5 hf hh hsep hb e0 ho1
  by_cases hc : c = 0
  · subst hc
    go_wp2_with fail
    go_ret
    exact ⟨n, f1, rfl, Nat.le_refl _, hr1, hb1, h6, by have := unhide HE; omega⟩
  · obtain rfl : c = 1 := by omega
    have hroom : n + 1 ≤ cap := by
      apply Nat.lt_of_not_le
      intro hle
      have e : n = cap := by omega
      subst e
      have := unhide HE
      have := unhide HFIT
      omega
    have hown1 : Own .u32 64 w1 g (.slice (some ⟨g, 0, none⟩) n cap) n f1 := .inr ⟨g, cap, rfl, Nat.le_refl _, hn, hr1⟩
    have hrow1 := hown1.row
    go_wp2_with (at_builtin; refine wpList_append_fits _ rfl _ _ 24 rfl g 64 i 1 Tryd.underlying24 hi hz1 g n cap _ rfl (hrow1.alloc _) ⟨w1.heap.size, 0, none⟩ 1 1 [.int .u32 1] rfl rfl (cells_one _ _ _) (fun u hu => by simp at hu; subst hu; rfl) hroom ?_; intro w4 hown4 hgrow4)
    go_ret
    have hsz := unhide HSZ
    have hown5 : Own .u32 64 w4 g (.slice (some ⟨g, 0, none⟩) (n + 1) cap) (n + 1) (upd f1 n 1) := Own.of_row hown4 (fun j hj => by
      by_cases e : j = n
      · subst e
        rw [upd_same, List.getElem?_append_right (by rw [cellsOf_length]; exact Nat.le_refl _), cellsOf_length]
        simp
      · rw [upd_other e, List.getElem?_append_left (by rw [cellsOf_length]; omega), cellsOf_get _ _ _ _ (by omega)])
    have hr4 : RowAt .u32 64 w4 g cap (n + 1) (upd f1 n 1) := by
      rcases hown5 with ⟨h, _⟩ | ⟨g', cap', h, _, _, hr⟩
      · cases h
      · cases h
        exact hr
    have hb4 : Below g w w4 := (hb1.alloc (by omega) _).grown hgrow4 (by simp; omega) (fun j hj => by cases hj; exact Nat.le_refl _)
    refine ⟨n + 1, upd f1 n 1, rfl, by omega, hr4, hb4, fun i hi => ?_, ?_⟩
    · by_cases e : i = n
      · rw [e, upd_same]; decide
      · rw [upd_other e]; exact h6 i (by omega)
    · rw [num_push]
      exact unhide HE

theorem Rd.apart {k : IntKind} {w : World} {ao : Option Addr} {n : Nat} {f : Nat → Nat} {g : Nat} (h : Rd k w ao n f) (hg : w.heap.size ≤ g) : ∀ a, ao = some a → n ≠ 0 → a.block ≠ g := by
  rintro a rfl hn
  rcases h with h | ⟨b, off, e, hc⟩
  · exact absurd h hn
  · cases e
    have := Rd.lt hc (by omega)
    show b ≠ g
    omega

theorem total_lt {ns : Nat → Nat} {fs : Nat → Nat → Nat} {k L : Nat} (hfs : ∀ j, j < k → ∀ i, i < ns j → fs j i < 4294967296) (hL : ∀ j, j < k → ns j ≤ L) : total ns fs k ≤ k * 4294967296 ^ L := by
  induction k with
  | zero => simp [total]
  | succ k ih =>
    have h1 := ih (fun j hj => hfs j (by omega)) (fun j hj => hL j (by omega))
    have h2 := num_lt_pow (hfs k (by omega)) (hL k (by omega))
    rw [total, Nat.add_mul, Nat.one_mul]
    omega

/-- So few numbers of L limbs: their sum has at most one limb more. -/
theorem sum_fits {x k L : Nat} (h : x < (k + 1) * 4294967296 ^ L) (hk : k + 1 ≤ 4294967296) : x < 4294967296 ^ (L + 1) := by
  have h1 : (k + 1) * 4294967296 ^ L ≤ 4294967296 * 4294967296 ^ L := Nat.mul_le_mul_right _ hk
  rw [Nat.pow_succ, Nat.mul_comm _ 4294967296]
  omega

theorem can_of_trim {f : Nat → Nat} {n m : Nat} (hf : ∀ i, i < n → f i < 4294967296) (hm : m ≤ n) (ht : m = 0 ∨ f (m - 1) ≠ 0) : Can 4294967296 f m := ⟨fun i hi => hf i (by omega), ht⟩

theorem RowAt.own {k : IntKind} {E : TypeId} {w : World} {base g N n : Nat} {f : Nat → Nat} (h : RowAt k E w g N n f) (hb : base ≤ g) (hN : N ≤ 9223372036854775807) : Own k E w base (.slice (some ⟨g, 0, none⟩) n N) n f :=
  .inr ⟨g, N, rfl, hb, hN, h⟩

set_option maxHeartbeats 2000000 in
theorem add_any (v u : Value) (n m k capm M : Nat) (f q : Nat → Nat) (mo : Option Addr) (vs : Nat → Value) (ns : Nat → Nat) (fs : Nat → Nat → Nat) (w : World)
    (hv : Sl .u32 w v n f) (hu : Sl .u32 w u m q) (hm : Rds w mo k vs) (hs : ∀ i, i < k → Sl .u32 w (vs i) (ns i) (fs i))
    (hf : ∀ i, i < n → f i < 4294967296) (hh : ∀ i, i < m → q i < 4294967296) (hfs : ∀ j, j < k → ∀ i, i < ns j → fs j i < 4294967296)
    (hn : n ≤ M) (hmM : m ≤ M) (hns : ∀ j, j < k → ns j ≤ M) (hM : 4 * (M + 1) ≤ 281474976710656) (hk : k + 2 ≤ 4294967296) :
    Calls Tryd.prog 100 #[v, u, .slice mo k capm] w fun e w' => ∃ v' n' f', e = .returned v' ∧ Own .u32 64 w' w.heap.size v' n' f' ∧ Below w.heap.size w w' ∧ Can 4294967296 f' n' ∧ n' ≤ M + 1 ∧
      num 4294967296 f' n' = num 4294967296 f n + num 4294967296 q m + total ns fs k := by
  obtain ⟨ao, cap, rfl, h1, h2, h0, h3⟩ := hv
  obtain ⟨bo, capb, rfl, g1, g2, g0, g3⟩ := hu
  clear h0 g0
  go_enter Tryd.func100, Tryd.ntmps100
  go_wp2_with fail
  all_goals
    go_loop [7, 20] (fun l t => ∃ j L : Nat, j ≤ k ∧ t = .int .i64 j ∧ l = .int .i64 L ∧ n ≤ L ∧ m ≤ L ∧ L ≤ M ∧ ∀ i, i < j → ns i ≤ L) (fun _ t => k - (intOf t).toNat)
    case atStart => exact ⟨0, _, Nat.zero_le _, rfl, rfl, by omega, by omega, by omega, fun i hi => by omega⟩
    case round =>
      obtain ⟨j, L, hj, rfl, rfl, l1, l2, l3, l4⟩ := hrel
      by_cases hjk : j < k
      · rcases hm with hm | ⟨b, off, rfl, hc⟩
        · omega
        obtain ⟨ao', cap', e', p1, p2, p0, p3⟩ := hs j hjk
        have hx := hc j hjk
        rw [e'] at hx
        have hnj := hns j hjk
        have l4' := hide l4
        clear hc hs hfs l4 e' hns hf hh p0
        generalize hq : ns j = nj at *
        have HQ := hide hq
        clear hq
        by_cases hlt : L < nj
        · go_wp2
          go_round
          case rel => exact ⟨j + 1, nj, by omega, by go_num, by first | rfl | simp [hlt], by omega, by omega, by omega, fun i hi => by
              by_cases e : i = j
              · rw [e, unhide HQ]; omega
              · have := unhide l4' i (by omega); omega⟩
          case measure => simp [intOf]; omega
        · go_wp2
          go_round
          case rel => exact ⟨j + 1, L, by omega, by go_num, by first | rfl | simp [hlt], by omega, by omega, by omega, fun i hi => by
              by_cases e : i = j
              · rw [e, unhide HQ]; omega
              · have := unhide l4' i (by omega); omega⟩
          case measure => simp [intOf]; omega
      · have hjk' : j = k := by omega
        subst hjk'
        have sepA := h3.apart (Nat.le_refl _)
        have sepB := g3.apart (Nat.le_refl _)
        have na := num_lt_pow hf l1
        have nb := num_lt_pow hh l2
        have z0 : num 4294967296 (fun _ => 0) L = 0 := by rw [num_tail (n := 0) (by omega) (fun _ _ _ => rfl)]; rfl
        have fit1 : num 4294967296 (fun _ => 0) L + num 4294967296 f n < 4294967296 ^ (L + 1) := by
          rw [z0]; exact sum_fits (k := 0) (by omega) (by omega)
        have fit2 : num 4294967296 f n + num 4294967296 q m < 4294967296 ^ (L + 1) := sum_fits (k := 1) (by omega) (by omega)
        have NA := hide na
        have NB := hide nb
        have Z0 := hide z0
        clear na nb z0
        go_wp2_with (at_make; refine wpList_mkUc rfl _ _ rfl .i64 .i64 _ _ L (L + 1) rfl rfl (by omega) (by omega) (by omega) (by omega) ?_; intro w1 hr1 hb1)
        refine (addGrowing_any _ (L + 1) L _ _ (fun _ => 0) f _ _ hr1 (h3.below hb1 (Nat.le_refl _)) sepA (by omega) (by omega) (fun _ _ => by decide) hf fit1).mono ?_
        rintro e w2 ⟨n2, f2, rfl, hn2, hr2, ho2, hd2, hs2⟩
        have hb2 := hb1.trans ho2
        have hl2 := hr2.le
        rw [unhide Z0, Nat.zero_add] at hs2
        have HS2 := hide hs2
        clear hb1 hr1 ho2 hs2 fit1
        go_wp2_with fail
        refine (addGrowing_any _ (L + 1) n2 _ _ f2 q _ _ hr2 (g3.below hb2 (Nat.le_refl _)) sepB (by omega) (by omega) hd2 hh (by rw [unhide HS2]; exact fit2)).mono ?_
        rintro e w3 ⟨n3, f3, rfl, hn3, hr3, ho3, hd3, hs3⟩
        have hb3 := hb2.trans ho3
        have hl3 := hr3.le
        rw [unhide HS2] at hs3
        have HS3 := hide hs3
        clear hb2 hr2 ho3 hs3 hd2 fit2
        go_wp2_with fail
        go_loopw [10, 41] (fun s t wr => ∃ (i ln : Nat) (f' : Nat → Nat), i ≤ j ∧ t = .int .i64 i ∧ s = .slice (some ⟨w.heap.size, 0, none⟩) ln (L + 1) ∧ L ≤ ln ∧ RowAt .u32 64 wr w.heap.size (L + 1) ln f' ∧ Below w.heap.size w wr ∧ (∀ i, i < ln → f' i < 4294967296) ∧ num 4294967296 f' ln = num 4294967296 f n + num 4294967296 q m + total ns fs i) (fun _ t _ => j - (intOf t).toNat)
        case atStart => exact ⟨0, n3, f3, Nat.zero_le _, rfl, rfl, by omega, hr3, hb3, hd3, by rw [unhide HS3]; rfl⟩
        case round =>
          obtain ⟨i, ln, f', hi, rfl, rfl, hLn, hr, hb, hd, hsum⟩ := hrel
          have HSUM := hide hsum
          have hln := hr.le
          clear hsum hr3 hb3 hd3 HS3
          by_cases hij : i < j
          · rcases hm with hm | ⟨b, off, rfl, hc⟩
            · omega
            obtain ⟨ao', cap', e', p1, p2, p0, p3⟩ := hs i hij
            have hx := (hb.cell (p := ⟨b, off + i, none⟩) (World.block_lt_of_cell? w _ (hc i hij))).trans (hc i hij)
            rw [e'] at hx
            have hfit : num 4294967296 f' ln + num 4294967296 (fs i) (ns i) < 4294967296 ^ (L + 1) := by
              have t1 := total_lt (k := i) (fun j hj => hfs j (by omega)) (fun j hj => l4 j (by omega))
              have t2 := num_lt_pow (hfs i hij) (l4 i hij)
              have t3 := unhide NA
              have t4 := unhide NB
              rw [unhide HSUM]
              refine sum_fits (k := i + 2) ?_ (by omega)
              rw [show i + 2 + 1 = i + 3 from rfl, Nat.add_mul]
              omega
            have hni := l4 i hij
            have hfi := hfs i hij
            have psep := p3.apart (Nat.le_refl _)
            clear hc hs hfs l4 e' hns hf hh p0 sepA sepB
            go_wp2_with fail
            refine (addGrowing_any _ (L + 1) ln _ _ f' (fs i) _ _ hr (p3.below hb (Nat.le_refl _)) psep (by omega) (by omega) hd hfi hfit).mono ?_
            rintro e w4 ⟨n4, f4, rfl, hn4, hr4, ho4, hd4, hs4⟩
            have hb4 := hb.trans ho4
            have HS4 := hide hs4
            clear hs4 hr hb ho4 hd hfit
            go_wp2_with fail
            go_roundw
            case rel => exact ⟨i + 1, n4, f4, by omega, by go_num, rfl, by omega, hr4, hb4, hd4, by rw [unhide HS4, unhide HSUM, show total ns fs (i + 1) = total ns fs i + num 4294967296 (fs i) (ns i) from rfl]; omega⟩
            case measure => simp [intOf]; omega
          · have hij' : i = j := by omega
            subst hij'
            go_wp2_with fail
            refine (trim_any _ ln _ f' _ hr.rd hln (by omega)).mono ?_
            rintro e w5 ⟨rfl, m', hm', rfl, hz, ht⟩
            go_wp2_with fail
            go_ret
            exact ⟨_, m', f', rfl, (hr.mono hm').own (Nat.le_refl _) (by omega), hb, can_of_trim hd hm' ht, by omega, by rw [← unhide HSUM, num_tail hm' hz]⟩

end Go.Proofs.YtjbocfhmfidjjaaDoor
