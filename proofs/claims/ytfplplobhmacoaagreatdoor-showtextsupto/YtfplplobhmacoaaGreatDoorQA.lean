/-
  What is proved here: what math/bits.Add32, Sub32, Mul32, Div32 answer, as plain sums, differences, products and quotients. what the small functions without memory of their own answer: nat.trim, tandemlaw00.SameLimbs, math/bits.Add32 and others, for every argument that can be read. plain facts on adding and taking digit by digit, with a carry; no walk. nat.addInto adds one row of limbs to another in place, and nat.takeFrom takes one from another; nothing else in memory turns. tandemlaw00.CopyLimbs, tandemlaw01.c and nat.clone hand back the limbs that they were handed, in new memory; tandemlaw01.same tells that two lists are the same. nat.Add answers the canonical limbs of the sum of all that it is handed, in new memory, for fewer than 2^32 lists that fit a machine. plain facts on multiplying a number's digits by a small factor, and on decimal digits; no walk. nat.Parse answers the number that a text of decimal digits says, and true; nothing and false of any other text. nat.divideByLimb divides a row of limbs by one limb in place, and answers the rest. nat.groupsOf answers a number's digits to the base 10^9, the highest not 0; nat.appendGroup appends nine decimal digits. nat.appendGroup appends the nine decimal digits of a group to a row of bytes that is its own. strconv.AppendUint appends the one decimal digit of 4. nat.Text answers the shortest decimal digits of a number, as far as strconv.AppendUint answers those of the highest group. plain facts on multiplying digit by digit; no walk. nat.addTimes adds a multiple of one row of limbs to another in place, and nat.times answers the canonical limbs of the product of two numbers, in new memory. nat.product and nat.Mul answer the limbs of the product of all that they are handed. nat.Add and nat.Mul of two numbers, out of the contracts for as many as one likes. small facts that let one call follow another: what could be read ahead of a call can be read behind it.
-/
import Derived.Test.YtfplplobhmacoaaGreatDoorProg
import Derived.Test.YtfplplobhmacoaaGreatDoorBase
import Derived.WalkLawsBesides
import Derived.Laws.BitsAllLaws
import Derived.Laws.CopyOwn
import Derived.Laws.AppendOwnNone
import Derived.Lib.Strings
import Derived.Lib.AppendStr
import Derived.Laws.IdiomStrings
import Derived.Deep.RegionWith
import Derived.Deep.QuietTactic
import Derived.BigQuiet
namespace Go.Proofs.YtfplplobhmacoaaGreatDoor
open Go Go.RowKit

theorem ret2 {k l : IntKind} {a b c d : Int} (h : a = b) (h' : c = d) : Ending.returned (.tuple #[.int k a, .int l c]) = .returned (.tuple #[.int k b, .int l d]) := by rw [h, h']

theorem head_or (h l : Nat) (hh : h < 4294967296) (hl : l < 4294967296) : bits BinOp.or IntKind.u64 ((h : Int) * 4294967296) (l : Int) = ((h * 4294967296 + l : Nat) : Int) := by
  have e : (h : Int) * 4294967296 = ((h * 4294967296 : Nat) : Int) := by simp
  rw [e, u64_or_nat _ _ (by omega) (by omega), nat_join 32 _ _ (by omega) (by omega)]

set_option maxHeartbeats 400000 in
theorem div32_any (h l d : Nat) (w : World) (hh : h < d) (hl : l < 4294967296) (hd : d < 4294967296) :
    Calls Tryz.prog 91 #[.int .u32 h, .int .u32 l, .int .u32 d] w fun e w' => e = .returned (.tuple #[.int .u32 ((h * 4294967296 + l) / d : Nat), .int .u32 ((h * 4294967296 + l) % d : Nat)]) ∧ w' = w.drew := by
  have e1 : ((d : Int) != 0) = true := by rw [bne_iff_ne]; omega
  have e2 : (0 : Int) < d := by omega
  have e3 : decide (d ≤ h) = false := by simp; omega
  have e4 := head_or h l (by omega) hl
  have hq : (h * 4294967296 + l) / d < 4294967296 := by
    rw [Nat.div_lt_iff_lt_mul (by omega)]
    have : (h + 1) * 4294967296 ≤ d * 4294967296 := Nat.mul_le_mul_right _ hh
    omega
  have hr : (h * 4294967296 + l) % d < d := Nat.mod_lt _ (by omega)
  have hz : h * 4294967296 + l < 18446744073709551616 := by omega
  go_enter Tryz.func91, Tryz.ntmps91
  go_wp2
  clear e4
  go_region
  all_goals go_wp2
  all_goals go_ret2
  all_goals refine ⟨ret2 ?_ ?_, rfl⟩
  all_goals rw [show ((h : Int) * 4294967296 + (l : Int)) = ((h * 4294967296 + l : Nat) : Int) from by simp]
  · rw [← Int.natCast_ediv]
    generalize (h * 4294967296 + l) / d = z at *
    omega
  · rw [← Int.natCast_emod]
    generalize (h * 4294967296 + l) % d = z at *
    omega

set_option maxHeartbeats 400000 in
theorem trim_any (ao : Option Addr) (n cap : Nat) (f : Nat → Nat) (w : World) (h : Rd .u32 w ao n f) (hnc : n ≤ cap) (hm : cap ≤ 9223372036854775807) :
    Calls Tryz.prog 88 #[.slice ao n cap] w fun e w' => w' = w ∧ ∃ m, m ≤ n ∧ e = .returned (.slice ao m cap) ∧ (∀ i, m ≤ i → i < n → f i = 0) ∧ (m = 0 ∨ f (m - 1) ≠ 0) := by
  rcases h with rfl | ⟨b, off, rfl, hc⟩
  · go_enter Tryz.func88, Tryz.ntmps88
    go_wp2
    refine wp_loop_rounds 1 ?_
    rw [rounds_succ]
    go_wp2
    go_ret
    exact ⟨rfl, 0, Nat.le_refl _, by simp, fun i h1 h2 => by omega, .inl rfl⟩
  · go_enter Tryz.func88, Tryz.ntmps88
    go_wp2
    go_loop [3] (fun t => ∃ k : Nat, k ≤ n ∧ t = .int .i64 k ∧ ∀ i, k ≤ i → i < n → f i = 0) (fun t => (intOf t).toNat)
    case atStart => exact ⟨n, Nat.le_refl _, rfl, fun i h1 h2 => by omega⟩
    case round =>
      obtain ⟨k, hk, rfl, hz⟩ := hrel
      by_cases hk0 : 0 < k
      · have hx := hc (k - 1) (by omega)
        clear hc
        by_cases he : f (k - 1) = 0
        · have HE : Hid (f (k - 1) = 0) := he
          rw [he] at hx
          clear he
          go_wp2
          go_round
          case rel => exact ⟨k - 1, by omega, by go_num, fun i h1 h2 => by
            by_cases e : i = k - 1
            · rw [e]; exact HE.out
            · exact hz i (by omega) h2⟩
          case measure => simp [intOf]; omega
        · have hb : ((f (k - 1) : Int) == 0) = false := by simp; omega
          generalize hy : f (k - 1) = y at *
          have HE := hide hy
          clear hy
          go_wp2
          go_ret
          exact ⟨rfl, k, hk, rfl, hz, .inr (by rw [unhide HE]; exact he)⟩
      · have e0 : k = 0 := by omega
        subst e0
        go_wp2
        go_ret
        exact ⟨rfl, 0, by omega, by simp, hz, .inl rfl⟩

/-- Behind k digits: the first k digits of the row (from place 'off' on) hold f's and h's sum but for the carry c; all else in the row is f's. -/
def AddRel (f h : Nat → Nat) (off n k : Nat) (f' : Nat → Nat) (c : Nat) : Prop :=
  c ≤ 1 ∧ (∀ i, ¬ (off ≤ i ∧ i < off + k) → f' i = f i) ∧ (∀ i, i < n → f' (off + i) < 4294967296) ∧
  num 4294967296 (fun i => f' (off + i)) k + c * 4294967296 ^ k = num 4294967296 (fun i => f (off + i)) k + num 4294967296 h k

theorem AddRel.start {f h : Nat → Nat} {off n : Nat} (hf : ∀ i, i < n → f (off + i) < 4294967296) : AddRel f h off n 0 f 0 :=
  ⟨by omega, fun _ _ => rfl, hf, by simp [num]⟩

theorem AddRel.step {f h f' : Nat → Nat} {off n k c x y : Nat} (r : AddRel f h off n k f' c) (_hk : k < n) (hx : f' (off + k) = x) (hy : h k = y) (hyl : y < 4294967296) :
    AddRel f h off n (k + 1) (upd f' (off + k) ((x + y + c) % 4294967296)) ((x + y + c) / 4294967296) := by
  obtain ⟨h1, h2, h3, h4⟩ := r
  have hxl : x < 4294967296 := by rw [← hx]; exact h3 k (by omega)
  refine ⟨by omega, fun i hi => ?_, fun i hi => ?_, ?_⟩
  · rw [upd_other (by omega)]
    exact h2 i (by omega)
  · by_cases e : i = k
    · rw [e, upd_same]; exact Nat.mod_lt _ (by decide)
    · rw [upd_other (by omega)]; exact h3 i hi
  · rw [num_succ, num_succ, num_succ, upd_same]
    rw [num_congr (g := fun i => f' (off + i)) (fun i hi => upd_other (by omega))]
    have e1 : f (off + k) = x := by rw [← hx]; exact (h2 _ (by omega)).symm
    rw [e1, hy, Nat.pow_succ]
    generalize 4294967296 ^ k = P at *
    have e2 : (x + y + c) % 4294967296 * P + (x + y + c) / 4294967296 * (P * 4294967296) = (x + y + c) * P := by
      rw [Nat.mul_comm P, ← Nat.mul_assoc, ← Nat.add_mul, Nat.mul_comm _ 4294967296, Nat.mod_add_div]
    rw [Nat.add_mul, Nat.add_mul] at e2
    omega

theorem AddRel.full {f h f' : Nat → Nat} {off n c : Nat} (r : AddRel f h off n n f' c) :
    num 4294967296 (fun i => f' (off + i)) n + c * 4294967296 ^ n = num 4294967296 (fun i => f (off + i)) n + num 4294967296 h n := r.2.2.2

/-- No carry is left: the higher digits stand. -/
theorem AddRel.rest {f h f' : Nat → Nat} {off n k : Nat} (r : AddRel f h off n k f' 0) (hk : k ≤ n) (hz : ∀ i, k ≤ i → i < n → h i = 0) : AddRel f h off n n f' 0 := by
  obtain ⟨h1, h2, h3, h4⟩ := r
  refine ⟨h1, fun i hi => h2 i (by omega), h3, ?_⟩
  obtain ⟨d, rfl⟩ : ∃ d, n = k + d := ⟨n - k, by omega⟩
  rw [num_tail (n := k) (m := k + d) hk hz, num_split, num_split 4294967296 (fun i => f (off + i))]
  rw [num_congr (g := fun i => f (off + (k + i))) (n := d) (fun i hi => h2 _ (by omega))]
  omega

/-- Behind k digits: f less h, but for what was borrowed. -/
def SubRel (f h : Nat → Nat) (off n k : Nat) (f' : Nat → Nat) (c : Nat) : Prop :=
  c ≤ 1 ∧ (∀ i, ¬ (off ≤ i ∧ i < off + k) → f' i = f i) ∧ (∀ i, i < n → f' (off + i) < 4294967296) ∧
  num 4294967296 (fun i => f' (off + i)) k + num 4294967296 h k = num 4294967296 (fun i => f (off + i)) k + c * 4294967296 ^ k

theorem SubRel.start {f h : Nat → Nat} {off n : Nat} (hf : ∀ i, i < n → f (off + i) < 4294967296) : SubRel f h off n 0 f 0 :=
  ⟨by omega, fun _ _ => rfl, hf, by simp [num]⟩

theorem SubRel.step {f h f' : Nat → Nat} {off n k c x y d b : Nat} (r : SubRel f h off n k f' c) (_hk : k < n) (hx : f' (off + k) = x) (hy : h k = y) (hd : d < 4294967296) (hb : b ≤ 1) (hs : d + y + c = x + 4294967296 * b) :
    SubRel f h off n (k + 1) (upd f' (off + k) d) b := by
  obtain ⟨h1, h2, h3, h4⟩ := r
  refine ⟨hb, fun i hi => ?_, fun i hi => ?_, ?_⟩
  · rw [upd_other (by omega)]
    exact h2 i (by omega)
  · by_cases e : i = k
    · rw [e, upd_same]; exact hd
    · rw [upd_other (by omega)]; exact h3 i hi
  · rw [num_succ, num_succ, num_succ, upd_same]
    rw [num_congr (g := fun i => f' (off + i)) (fun i hi => upd_other (by omega))]
    have e1 : f (off + k) = x := by rw [← hx]; exact (h2 _ (by omega)).symm
    rw [e1, hy, Nat.pow_succ]
    generalize 4294967296 ^ k = P at *
    have e2 : (d + y + c) * P = (x + 4294967296 * b) * P := by rw [hs]
    rw [Nat.add_mul, Nat.add_mul, Nat.add_mul] at e2
    have e3 : 4294967296 * b * P = b * (P * 4294967296) := by rw [Nat.mul_comm 4294967296 b, Nat.mul_assoc, Nat.mul_comm 4294967296 P]
    omega

theorem SubRel.rest {f h f' : Nat → Nat} {off n k : Nat} (r : SubRel f h off n k f' 0) (hk : k ≤ n) (hz : ∀ i, k ≤ i → i < n → h i = 0) : SubRel f h off n n f' 0 := by
  obtain ⟨h1, h2, h3, h4⟩ := r
  refine ⟨h1, fun i hi => h2 i (by omega), h3, ?_⟩
  obtain ⟨d, rfl⟩ : ∃ d, n = k + d := ⟨n - k, by omega⟩
  rw [num_tail (n := k) (m := k + d) hk hz, num_split, num_split 4294967296 (fun i => f (off + i))]
  rw [num_congr (g := fun i => f (off + (k + i))) (n := d) (fun i hi => h2 _ (by omega))]
  omega

/-- h, and noughts from m on. -/
def cut (h : Nat → Nat) (m : Nat) : Nat → Nat := fun i => if i < m then h i else 0

theorem cut_in {h : Nat → Nat} {m i : Nat} (hi : i < m) : cut h m i = h i := by simp [cut, hi]

theorem cut_out {h : Nat → Nat} {m i : Nat} (hi : m ≤ i) : cut h m i = 0 := by simp [cut]; omega

theorem num_cut {B : Nat} {h : Nat → Nat} {m n : Nat} (hn : m ≤ n) : num B (cut h m) n = num B h m := by
  rw [num_tail hn (fun i h1 _ => cut_out h1), num_congr (g := h) (fun i hi => cut_in hi)]

theorem infoU : (Tryz.prog.info? 83).map (fun i => (i.zero, i.size, i.bytes)) = some (some (.int .u32 0), 1, 4) := by kernel_rfl

theorem infoI : (Tryz.prog.info? 3).map (fun i => (i.zero, i.size, i.bytes)) = some (some (.int .i64 0), 1, 8) := by kernel_rfl

theorem Below.of_grown {w w' : World} (h : w.grownBy w' none) : Below w.heap.size w w' :=
  (Below.refl _ _).grown h (Nat.le_refl _) (fun k hk => by cases hk)

/-- make([]uint32, n): a block of its own, all noughts. -/
theorem wpList_mkU {w : World} {ops : Array Oper} {rest : List Oper} {o : Oper} {a : Act} {Q : Exit → Act → World → Prop}
    (hg : o.guard = none) (l c : Operand) (hop : o.op = Op.makeSlice 28 l c)
    (kl kc : IntKind) (L C : Int) (n : Nat) (hl : a.eval l = .int kl L) (hc : a.eval c = .int kc C) (hL : L = (n : Int)) (hC : C = (n : Int)) (b2 : 4 * n ≤ 281474976710656)
    (hK : ∀ w', RowAt .u32 83 w' w.heap.size n n (fun _ => 0) → Below w.heap.size w w' → wpList Tryz.prog ops Q rest (a.put o.dst (.slice (some ⟨w.heap.size, 0, none⟩) n n)) w') :
    wpList Tryz.prog ops Q (o :: rest) a w := by
  obtain ⟨i, hi, hz0, hz1, hz2⟩ := info_parts infoU
  refine wpList_make_full w hg l c 28 hop w.heap.size 83 i (.int .u32 0) 1 Tryz.underlying28 hi hz0 hz1 kl kc L C n hl hc hL hC (by rw [hz2]; exact b2) (by unfold maxLen; omega) (Nat.le_refl _) ?_
  intro w' hown hgrow
  refine hK w' ?_ (Below.of_grown hgrow)
  have ho : Own .u32 83 w' w.heap.size (.slice (some ⟨w.heap.size, 0, none⟩) n n) n (fun _ => 0) :=
    Own.of_row hown (fun j hj => by
      rw [show (Value.int .u32 0).cells = #[Value.int .u32 0] from rfl, toList_madeCells_one]
      simp [hj])
  rcases ho with ⟨h, _⟩ | ⟨g, cap, h, _, _, hr⟩
  · cases h
  · cases h
    exact hr

theorem cellsOf_read {k : IntKind} {w : World} {b off n : Nat} {f : Nat → Nat} (hc : ∀ i, i < n → w.cell? ⟨b, off + i, none⟩ = some (.int k (f i))) : ∀ j u, (cellsOf k f n)[j]? = some u → w.cell? ((⟨b, off, none⟩ : Addr).add j) = some u := by
  intro j u hj
  have hl : j < n := by
    have := (List.getElem?_eq_some_iff.1 hj).1
    simpa [cellsOf] using this
  rw [cellsOf_get k f n j hl] at hj
  rw [Addr.add_lit, hc j hl]
  exact hj

/-- Where what is read lies, as the laws on copy and append ask it. -/
theorem Rd.cells {k : IntKind} {w : World} {ao : Option Addr} {n : Nat} {f : Nat → Nat} (h : Rd k w ao n f) : 0 < n → ∃ b off, ao = some ⟨b, off, none⟩ ∧ b < w.heap.size ∧ ∀ j u, (cellsOf k f n)[j]? = some u → w.cell? ((⟨b, off, none⟩ : Addr).add j) = some u := by
  intro hn
  rcases h with h | ⟨b, off, rfl, hc⟩
  · omega
  · exact ⟨b, off, rfl, Rd.lt hc hn, cellsOf_read hc⟩

theorem cells_below {k : IntKind} {w w' : World} {b off n : Nat} {f : Nat → Nat} (hb : Below w.heap.size w w') (hl : b < w.heap.size) (hc : ∀ j u, (cellsOf k f n)[j]? = some u → w.cell? ((⟨b, off, none⟩ : Addr).add j) = some u) :
    ∀ j u, (cellsOf k f n)[j]? = some u → w'.cell? ((⟨b, off, none⟩ : Addr).add j) = some u := by
  intro j u hj
  rw [hb.cell (p := (⟨b, off, none⟩ : Addr).add j) (by rw [Addr.add_lit]; exact hl)]
  exact hc j u hj

set_option maxHeartbeats 400000 in
theorem clone_any (ao : Option Addr) (n cap : Nat) (f : Nat → Nat) (w : World) (h : Rd .u32 w ao n f) (hn : 4 * n ≤ 281474976710656) :
    Calls Tryz.prog 87 #[.slice ao n cap] w fun e w' => e = .returned (.slice (some ⟨w.heap.size, 0, none⟩) n n) ∧ RowAt .u32 83 w' w.heap.size n n f ∧ Below w.heap.size w w' := by
  have hcs := cellsOf_length .u32 f n
  have hmin : (cellsOf .u32 f n).length = Nat.min n n := by rw [hcs]; exact (Nat.min_self n).symm
  go_enter Tryz.func87, Tryz.ntmps87
  go_wp2_with (first
    | (at_make; refine wpList_mkU rfl _ _ rfl .i64 .i64 _ _ n rfl rfl rfl rfl hn ?_; intro w1 hr hb; obtain ⟨cur, h1, h2, h3, h4⟩ := id hr; have h1' : w1.heap[w.heap.size]? = some (.cells cur.toList.toArray 83 (0, 0)) := (by simpa using h1))
    | (refine wpList_copy_splice rfl (.tmp 7) (.tmp 8) 28 28 rfl 83 Tryz.underlying28 (by kernel_rfl) _ _ _ _ _ _ rfl rfl w.heap.size 0 cur.toList 83 h1' (cellsOf .u32 f n) hmin (fun hp => ⟨rfl, by rw [hcs] at hp; obtain ⟨b, off, e, hl, hc⟩ := h.cells hp; exact ⟨_, e, cells_below hb hl hc⟩⟩) (by rw [hcs]; simp; omega) (cellsOf_one _ _ _) w.heap.size w hb (Nat.le_refl _) ?_; intro w2 HG hb2; clear h1 h1' hr hb))
  go_ret
  refine ⟨rfl, ⟨_, HG.out, ?_, Nat.le_refl _, fun i hi => ?_⟩, hb2⟩
  · simp [splice, hcs]; omega
  · simp only [splice, List.take_zero, List.nil_append, hcs, Nat.zero_add]
    rw [List.getElem?_toArray, List.getElem?_append_left (by rw [hcs]; exact hi), cellsOf_get _ _ _ _ hi]

theorem cells_one (w : World) (a : Value) (E : TypeId) : ∀ j u, [a][j]? = some u → (w.alloc (.cells #[a] E)).cell? ((⟨w.heap.size, 0, none⟩ : Addr).add j) = some u := by
  intro j u hj
  rw [Addr.add_lit, cell_of_row _ _ _ _ _ _ (heap_alloc_new w _), Nat.zero_add]
  simpa using hj

/-- m slices, read from an address on. -/
def Rds (w : World) (mo : Option Addr) (m : Nat) (vs : Nat → Value) : Prop :=
  m = 0 ∨ ∃ b off, mo = some ⟨b, off, none⟩ ∧ ∀ i, i < m → w.cell? ⟨b, off + i, none⟩ = some (vs i)

theorem Rds.below {B : Nat} {w w' : World} {mo : Option Addr} {m : Nat} {vs : Nat → Value} (h : Rds w mo m vs) (hb : Below B w w') (hB : w.heap.size ≤ B) : Rds w' mo m vs := by
  rcases h with h | ⟨b, off, rfl, hc⟩
  · exact .inl h
  · by_cases hn : m = 0
    · exact .inl hn
    · have hl : b < w.heap.size := World.block_lt_of_cell? w _ (hc 0 (by omega))
      exact .inr ⟨b, off, rfl, fun i hi => (hb.cell (p := ⟨b, off + i, none⟩) (by show b < B; omega)).trans (hc i hi)⟩

/-- The sum of the first k lists' numbers. -/
def total (ns : Nat → Nat) (fs : Nat → Nat → Nat) : Nat → Nat
  | 0 => 0
  | k + 1 => total ns fs k + num 4294967296 (fs k) (ns k)

theorem num_lt_pow {f : Nat → Nat} {n L : Nat} (h : ∀ i, i < n → f i < 4294967296) (hL : n ≤ L) : num 4294967296 f n < 4294967296 ^ L :=
  Nat.lt_of_lt_of_le (num_lt h) (Nat.pow_le_pow_right (by decide) hL)

theorem Rd.apart {k : IntKind} {w : World} {ao : Option Addr} {n : Nat} {f : Nat → Nat} {g : Nat} (h : Rd k w ao n f) (hg : w.heap.size ≤ g) : ∀ a, ao = some a → n ≠ 0 → a.block ≠ g := by
  rintro a rfl hn
  rcases h with h | ⟨b, off, e, hc⟩
  · exact absurd h hn
  · cases e
    have := Rd.lt hc (by omega)
    show b ≠ g
    omega

theorem RowAt.own {k : IntKind} {E : TypeId} {w : World} {base g N n : Nat} {f : Nat → Nat} (h : RowAt k E w g N n f) (hb : base ≤ g) (hN : N ≤ 9223372036854775807) : Own k E w base (.slice (some ⟨g, 0, none⟩) n N) n f :=
  .inr ⟨g, N, rfl, hb, hN, h⟩

/-- Behind k digits: f's first k digits times d, and c0, but for the carry c. -/
def ScaleRel (f : Nat → Nat) (d c0 n k : Nat) (f' : Nat → Nat) (c : Nat) : Prop :=
  c < d ∧ (∀ i, k ≤ i → f' i = f i) ∧ (∀ i, i < n → f' i < 4294967296) ∧ num 4294967296 f' k + c * 4294967296 ^ k = num 4294967296 f k * d + c0

theorem ScaleRel.start {f : Nat → Nat} {d c0 n : Nat} (hf : ∀ i, i < n → f i < 4294967296) (hc : c0 < d) : ScaleRel f d c0 n 0 f c0 :=
  ⟨hc, fun _ _ => rfl, hf, by simp [num]⟩

theorem ScaleRel.step {f f' : Nat → Nat} {d c0 n k c x : Nat} (r : ScaleRel f d c0 n k f' c) (_hk : k < n) (hx : f' k = x) :
    ScaleRel f d c0 n (k + 1) (upd f' k ((x * d + c) % 4294967296)) ((x * d + c) / 4294967296) := by
  obtain ⟨h1, h2, h3, h4⟩ := r
  have hxl : x < 4294967296 := by rw [← hx]; exact h3 k (by omega)
  have hs : x * d + c < 4294967296 * d := by
    have : (x + 1) * d ≤ 4294967296 * d := Nat.mul_le_mul_right _ hxl
    rw [Nat.add_mul, Nat.one_mul] at this
    omega
  refine ⟨(Nat.div_lt_iff_lt_mul (by decide)).2 (Nat.mul_comm 4294967296 d ▸ hs), fun i hi => ?_, fun i hi => ?_, ?_⟩
  · rw [upd_other (by omega)]
    exact h2 i (by omega)
  · by_cases e : i = k
    · rw [e, upd_same]; exact Nat.mod_lt _ (by decide)
    · rw [upd_other (by omega)]; exact h3 i hi
  · rw [num_succ, num_succ, upd_same]
    rw [num_congr (g := f') (fun i hi => upd_other (by omega))]
    have e1 : f k = x := by rw [← hx]; exact (h2 _ (by omega)).symm
    rw [e1, Nat.pow_succ]
    generalize 4294967296 ^ k = P at *
    have e2 : (x * d + c) % 4294967296 * P + (x * d + c) / 4294967296 * (P * 4294967296) = (x * d + c) * P := by
      rw [Nat.mul_comm P, ← Nat.mul_assoc, ← Nat.add_mul, Nat.mul_comm _ 4294967296, Nat.mod_add_div]
    rw [Nat.add_mul (x * d)] at e2
    have e3 : (num 4294967296 f k + x * P) * d = num 4294967296 f k * d + x * d * P := by
      rw [Nat.add_mul, Nat.mul_assoc, Nat.mul_comm P, ← Nat.mul_assoc]
    rw [e3]
    omega

/-- Great enough: the highest digit is not 0. -/
theorem top_of_ge {B : Nat} {f : Nat → Nat} {n : Nat} (hf : ∀ i, i < n → f i < B) (hn : 0 < n) (h : B ^ (n - 1) ≤ num B f n) : f (n - 1) ≠ 0 := by
  intro e
  have h1 := num_lt (B := B) (f := f) (n := n - 1) (fun i hi => hf i (by omega))
  have h2 : num B f n = num B f (n - 1) := num_tail (by omega) (fun i h1 h2 => by rw [show i = n - 1 from by omega]; exact e)
  omega

theorem ScaleRel.can {f f' : Nat → Nat} {d c0 n : Nat} (r : ScaleRel f d c0 n n f' 0) (hd : 0 < d) (hf : Can 4294967296 f n) : Can 4294967296 f' n := by
  refine ⟨r.2.2.1, ?_⟩
  by_cases hn : n = 0
  · exact .inl hn
  · refine .inr (top_of_ge r.2.2.1 (by omega) ?_)
    have h1 := num_ge (B := 4294967296) (f := f) (n := n) (by omega) (by rcases hf.2 with h | h; omega; exact h)
    have h2 := r.2.2.2
    have h3 : num 4294967296 f n * 1 ≤ num 4294967296 f n * d := Nat.mul_le_mul_left _ hd
    omega

/-- The number that decimal digits say, the highest first. -/
def dec (d : Nat → Nat) : Nat → Nat
  | 0 => 0
  | k + 1 => dec d k * 10 + d k

theorem dec_split (d : Nat → Nat) (a b : Nat) : dec d (a + b) = dec d a * 10 ^ b + dec (fun i => d (a + i)) b := by
  induction b with
  | zero => simp [dec]
  | succ b ih =>
    rw [← Nat.add_assoc, dec, ih, dec, Nat.pow_succ, Nat.add_mul, Nat.mul_assoc, Nat.add_assoc]

theorem dec_lt {d : Nat → Nat} {k : Nat} (h : ∀ i, i < k → d i ≤ 9) : dec d k < 10 ^ k := by
  induction k with
  | zero => simp [dec]
  | succ k ih =>
    have h1 := ih (fun i hi => h i (by omega))
    have h2 := h k (by omega)
    rw [dec, Nat.pow_succ]
    omega

theorem dec_congr {d e : Nat → Nat} {k : Nat} (h : ∀ i, i < k → d i = e i) : dec d k = dec e k := by
  induction k with
  | zero => rfl
  | succ k ih => rw [dec, dec, ih (fun i hi => h i (by omega)), h k (by omega)]

theorem num_head (B : Nat) (f : Nat → Nat) (k : Nat) : num B f (k + 1) = f 0 + B * num B (fun i => f (1 + i)) k := by
  rw [Nat.add_comm, num_split]
  simp [num]

/-- From place j on: the digits of f' times d, and the rest r, make the digits of f. -/
def DivRel (f : Nat → Nat) (d n j : Nat) (f' : Nat → Nat) (r : Nat) : Prop :=
  r < d ∧ (∀ i, i < j → f' i = f i) ∧ (∀ i, j ≤ i → i < n → f' i < 4294967296) ∧
  num 4294967296 (fun i => f' (j + i)) (n - j) * d + r = num 4294967296 (fun i => f (j + i)) (n - j)

theorem DivRel.start {f : Nat → Nat} {d n : Nat} (hd : 0 < d) : DivRel f d n n f 0 :=
  ⟨hd, fun _ _ => rfl, fun i h1 h2 => by omega, by simp [num]⟩

theorem DivRel.step {f f' : Nat → Nat} {d n j r x : Nat} (h : DivRel f d n (j + 1) f' r) (hj : j < n) (hx : f' j = x) (hxl : x < 4294967296) :
    DivRel f d n j (upd f' j ((r * 4294967296 + x) / d)) ((r * 4294967296 + x) % d) := by
  obtain ⟨h1, h2, h3, h4⟩ := h
  have hd : 0 < d := by omega
  have hq : (r * 4294967296 + x) / d < 4294967296 := by
    rw [Nat.div_lt_iff_lt_mul hd]
    have : (r + 1) * 4294967296 ≤ d * 4294967296 := Nat.mul_le_mul_right _ h1
    rw [Nat.mul_comm 4294967296 d]
    omega
  refine ⟨Nat.mod_lt _ hd, fun i hi => ?_, fun i hi1 hi2 => ?_, ?_⟩
  · rw [upd_other (by omega)]
    exact h2 i (by omega)
  · by_cases e : i = j
    · rw [e, upd_same]; exact hq
    · rw [upd_other e]; exact h3 i (by omega) hi2
  · have e0 : n - j = n - (j + 1) + 1 := by omega
    rw [e0, num_head, num_head, Nat.add_zero, upd_same]
    have e1 : f j = x := by rw [← hx]; exact (h2 j (by omega)).symm
    rw [e1]
    rw [num_congr (f := fun i => upd f' j ((r * 4294967296 + x) / d) (j + (1 + i))) (g := fun i => f' (j + 1 + i)) (fun i _ => by rw [upd_other (by omega), ← Nat.add_assoc])]
    rw [num_congr (f := fun i => f (j + (1 + i))) (g := fun i => f (j + 1 + i)) (fun i _ => by rw [← Nat.add_assoc])]
    have e2 := Nat.div_add_mod (r * 4294967296 + x) d
    rw [← h4]
    generalize (r * 4294967296 + x) / d = q at *
    generalize (r * 4294967296 + x) % d = s at *
    generalize num 4294967296 (fun i => f' (j + 1 + i)) (n - (j + 1)) = T at *
    rw [Nat.add_mul, Nat.mul_add, Nat.mul_assoc]
    rw [Nat.mul_comm d q] at e2
    omega

theorem DivRel.done {f f' : Nat → Nat} {d n r : Nat} (h : DivRel f d n 0 f' r) : num 4294967296 f' n = num 4294967296 f n / d ∧ r = num 4294967296 f n % d := by
  obtain ⟨h1, h2, h3, h4⟩ := h
  have e0 : ∀ q : Nat → Nat, (fun i => q (0 + i)) = q := fun q => by funext i; rw [Nat.zero_add]
  rw [e0, e0, Nat.sub_zero] at h4
  rw [← h4]
  constructor
  · rw [Nat.mul_comm, Nat.mul_add_div (by omega), Nat.div_eq_of_lt h1, Nat.add_zero]
  · rw [Nat.mul_comm, Nat.mul_add_mod, Nat.mod_eq_of_lt h1]

set_option maxHeartbeats 1000000 in
theorem divideByLimb_any (g N K n cap d : Nat) (f : Nat → Nat) (w : World)
    (hrow : RowAt .u32 83 w g N K f) (hnK : n ≤ K) (hn : n ≤ 9223372036854775807) (hd : 0 < d) (hdl : d < 4294967296)
    (hf : ∀ i, i < n → f i < 4294967296) :
    Calls Tryz.prog 89 #[.slice (some ⟨g, 0, none⟩) n cap, .int .u32 d] w fun e w' => ∃ (f' : Nat → Nat), e = .returned (.int .u32 (num 4294967296 f n % d : Nat)) ∧ RowAt .u32 83 w' g N K f' ∧ Only g w w' ∧ (∀ i, i < n → f' i < 4294967296) ∧ num 4294967296 f' n = num 4294967296 f n / d := by
  go_enter Tryz.func89, Tryz.ntmps89
  go_wp2
  go_loopw [5, 6] (fun c t wr => ∃ (j : Nat) (f' : Nat → Nat) (r : Nat), j ≤ n ∧ t = .int .i64 ((j : Int) - 1) ∧ c = .int .u32 r ∧ RowAt .u32 83 wr g N K f' ∧ Only g w wr ∧ DivRel f d n j f' r) (fun _ t _ => (intOf t + 1).toNat)
  case atStart => exact ⟨n, f, 0, Nat.le_refl _, rfl, rfl, hrow, Only.refl _ _, DivRel.start hd⟩
  case round =>
    obtain ⟨j, f', r, hj, rfl, rfl, hr, ho, hrl⟩ := hrel
    by_cases hj0 : j = 0
    · subst hj0
      go_wp2
      go_ret
      exact ⟨f', by rw [← hrl.done.2]; rfl, hr, ho, fun i hi => hrl.2.2.1 i (by omega) hi, hrl.done.1⟩
    · obtain ⟨i, rfl⟩ : ∃ i, j = i + 1 := ⟨j - 1, by omega⟩
      have hrd : r < d := hrl.1
      have hx := hr.cell (i := i) (by omega)
      have hfr := hr.free i
      have hxl : f' i < 4294967296 := by rw [hrl.2.1 i (by omega)]; exact hf i (by omega)
      have HS := hide (hrl.step (x := f' i) (by omega) rfl hxl)
      have HR := hide hr
      have HO := hide ho
      clear hrl hr ho hf hrow
      generalize f' i = x at *
      rw [show (((i + 1 : Nat) : Int) - 1) = (i : Int) from by omega]
      go_wp2_with (go_at_call 91; refine (div32_any r x d _ hrd hxl hdl).mono ?_; rintro e w' ⟨rfl, rfl⟩)
      go_roundw
      case rel => exact ⟨i, _, _, by omega, by go_num, rfl, (unhide HR).set (by omega) _, ((unhide HO).setCell _ _).drew, unhide HS⟩
      case measure => simp [intOf]

def lenOf : Value → Nat | .slice _ n _ => n | _ => 0

/-- Behind k groups: V is the k groups and what is left, X, behind them. -/
def GroupRel (V k : Nat) (G : Nat → Nat) (X : Nat) : Prop :=
  (∀ i, i < k → G i < 1000000000) ∧ V = num 1000000000 G k + X * 1000000000 ^ k ∧ (X = 0 → k = 0 ∨ G (k - 1) ≠ 0)

theorem GroupRel.step {V k X : Nat} {G : Nat → Nat} (h : GroupRel V k G X) (hX : 0 < X) : GroupRel V (k + 1) (upd G k (X % 1000000000)) (X / 1000000000) := by
  obtain ⟨h1, h2, h3⟩ := h
  refine ⟨fun i hi => ?_, ?_, fun hz => .inr ?_⟩
  · by_cases e : i = k
    · rw [e, upd_same]; exact Nat.mod_lt _ (by decide)
    · rw [upd_other e]; exact h1 i (by omega)
  · rw [num_succ, upd_same, num_congr (g := G) (fun i hi => upd_other (by omega)), h2, Nat.pow_succ]
    generalize 1000000000 ^ k = P
    have : X % 1000000000 * P + X / 1000000000 * (P * 1000000000) = X * P := by
      rw [Nat.mul_comm P, ← Nat.mul_assoc, ← Nat.add_mul, Nat.mul_comm _ 1000000000, Nat.mod_add_div]
    omega
  · rw [Nat.add_sub_cancel, upd_same]
    omega

/-- So many limbs make at most twice as many groups. -/
theorem GroupRel.few {V k X n : Nat} {G : Nat → Nat} (h : GroupRel V k G X) (hX : 0 < X) (hV : V < 4294967296 ^ n) : k < 2 * n := by
  have h2 := h.2.1
  have h3 : 1 * 1000000000 ^ k ≤ X * 1000000000 ^ k := Nat.mul_le_mul_right _ hX
  have h4 : 4294967296 ^ n ≤ 1000000000 ^ (2 * n) := by
    rw [Nat.pow_mul]
    exact Nat.pow_le_pow_left (by decide) n
  apply Nat.lt_of_not_le
  intro hle
  have h5 : 1000000000 ^ (2 * n) ≤ 1000000000 ^ k := Nat.pow_le_pow_right (by decide) hle
  omega

set_option maxRecDepth 4000 in
set_option maxHeartbeats 2000000 in
theorem groupsOf_any (v : Value) (n : Nat) (f : Nat → Nat) (w : World) (hv : Sl .u32 w v n f) (hf : ∀ i, i < n → f i < 4294967296) (hn : 8 * (n + 1) ≤ 140737488355328) :
    Calls Tryz.prog 82 #[v] w fun e w' => ∃ v' k G, e = .returned v' ∧ Own .u32 83 w' w.heap.size v' k G ∧ Below w.heap.size w w' ∧ Can 1000000000 G k ∧ k ≤ 2 * n ∧ num 1000000000 G k = num 4294967296 f n := by
  obtain ⟨i, hi, hz0, hz1, hz2⟩ := info_parts infoU
  obtain ⟨ao, cap, rfl, h1, h2, h0, h3⟩ := hv
  have hV := num_lt hf
  go_enter Tryz.func82, Tryz.ntmps82
  go_wp2_with fail
  refine (trim_any _ _ _ f _ h3 h1 h2).mono ?_
  rintro e w1 ⟨rfl, p, hp, rfl, zp, tp⟩
  go_wp2_with fail
  refine (clone_any _ _ _ f _ (h3.mono hp) (by omega)).mono ?_
  rintro e w2 ⟨rfl, hr2, hb2⟩
  have HE := hide (num_tail (B := 4294967296) hp zp)
  have hz2' := hb2.size
  have hlt2 := hr2.lt
  go_wp2_with fail
  go_loopw [3, 4] (fun t3 t4 wr => ∃ (m k : Nat) (f' G : Nat → Nat), t3 = .slice (some ⟨w1.heap.size, 0, none⟩) m p ∧ m ≤ p ∧ RowAt .u32 83 wr w1.heap.size p p f' ∧ Can 4294967296 f' m ∧ Own .u32 83 wr (w1.heap.size + 1) t4 k G ∧ Below w1.heap.size w1 wr ∧ w1.heap.size + 1 ≤ wr.heap.size ∧ GroupRel (num 4294967296 f n) k G (num 4294967296 f' m) ∧ k ≤ 2 * n) (fun _ t4 _ => 2 * n - lenOf t4)
  case atStart => exact ⟨p, 0, f, fun _ => 0, rfl, Nat.le_refl _, hr2, ⟨fun i hi => hf i (by omega), tp⟩, .inl ⟨rfl, rfl⟩, hb2, by omega, ⟨fun i hi => by omega, by rw [unhide HE]; simp [num], fun _ => .inl rfl⟩, by omega⟩
  case round =>
    obtain ⟨m, k, f', G, rfl, hm, hr, hc, hown, hbel, hsz, hg, hk⟩ := hrel
    clear hr2 hb2 hlt2 hz2'
    by_cases hm0 : m = 0
    · subst hm0
      go_wp2_with fail
      go_ret
      have hx : num 4294967296 f' 0 = 0 := rfl
      rw [hx] at hg
      exact ⟨_, k, G, rfl, hown.mono (by omega), hbel, ⟨hg.1, hg.2.2 rfl⟩, hk, by rw [hg.2.1]; omega⟩
    · have hX : 0 < num 4294967296 f' m := by
        have := num_ge (B := 4294967296) (f := f') (n := m) (by omega) (by rcases hc.2 with h | h; omega; exact h)
        have : 0 < 4294967296 ^ (m - 1) := Nat.pos_of_ne_zero (by simp)
        omega
      have hfew := hg.few hX hV
      have HG := hide (hg.step hX)
      clear hg
      go_wp2_with fail
      refine (divideByLimb_any _ p p m _ 1000000000 f' _ hr hm (by omega) (by decide) (by decide) hc.1).mono ?_
      rintro e w3 ⟨f3, rfl, hr3, ho3, hd3, hq3⟩
      have hown3 : Own .u32 83 w3 (w1.heap.size + 1) u4 k G := by
        rcases hown with ⟨h, h'⟩ | ⟨g, cp, h, hb, hcp, hrr⟩
        · exact .inl ⟨h, h'⟩
        · exact .inr ⟨g, cp, h, hb, hcp, hrr.block (ho3.block g (by omega))⟩
      have hb3 := Only.below hbel ho3 (Nat.le_refl _)
      have hsz3 : w1.heap.size + 1 ≤ w3.heap.size := by rw [ho3.size]; exact hsz
      have hrow3 := hown3.row
      have HQ := hide hq3
      clear hq3 hown ho3 hr hbel hsz
      go_wp2_with (at_builtin; refine wpList_append_own _ rfl _ _ 28 rfl (w1.heap.size + 1) 83 i (.int .u32 0) 1 4 Tryz.underlying28 hi hz0 hz1 hz2 rfl (by decide) _ _ _ rfl (hrow3.alloc _) ⟨w3.heap.size, 0, none⟩ 1 1 [.int .u32 (num 4294967296 f' m % 1000000000 : Nat)] rfl rfl (cells_one _ _ _) (fun u hu => by simp at hu; subst hu; rfl) (by unfold maxLen; omega) (by omega) (by simp; omega) ?_; intro v4 w4 hown4 hgrow4 hx4)
      have hblk : w4.heap[w1.heap.size]? = w3.heap[w1.heap.size]? :=
        (hgrow4.block _ (by simp; omega) (fun e => by have := (hrow3.lt _ e.symm).1; omega)).trans (Below.heap_alloc w3 _ _ (by omega))
      have hr4 := hr3.block hblk
      have hb4 : Below w1.heap.size w1 w4 := (hb3.alloc (by omega) _).grown hgrow4 (by simp; omega) (fun j hj => by have := (hrow3.lt j hj).1; omega)
      have hsz4 : w1.heap.size + 1 ≤ w4.heap.size := by have := hgrow4.size; simp at this; omega
      have hown5 : Own .u32 83 w4 (w1.heap.size + 1) v4 (k + 1) (upd G k (num 4294967296 f' m % 1000000000)) := Own.of_row hown4 (fun j hj => by
        by_cases e : j = k
        · subst e
          rw [upd_same, List.getElem?_append_right (by rw [cellsOf_length]; exact Nat.le_refl _), cellsOf_length]
          simp
        · rw [upd_other e, List.getElem?_append_left (by rw [cellsOf_length]; omega), cellsOf_get _ _ _ _ (by omega)])
      have hlen : lenOf v4 = k + 1 := by
        rcases hown5 with ⟨h, h'⟩ | ⟨g, cp, h, _⟩
        · omega
        · rw [h]; rfl
      have hlen0 : lenOf u4 = k := by
        rcases hown3 with ⟨h, h'⟩ | ⟨g, cp, h, _⟩
        · rw [h, h']; rfl
        · rw [h]; rfl
      have HL := hide hlen
      have HL0 := hide hlen0
      clear hblk hr3 hb3 hrow3 hown3 hown4 hgrow4 hlen hlen0
      refine (trim_any _ m _ f3 _ (hr4.mono hm).rd hm (by omega)).mono ?_
      rintro e w5 ⟨rfl, q, hq, rfl, zq, tq⟩
      have hnq := num_tail (B := 4294967296) hq zq
      have HN := hide hnq
      clear hnq
      go_wp2_with fail
      go_roundw
      case rel => exact ⟨q, k + 1, f3, _, rfl, by omega, hr4, ⟨fun i hi => hd3 i (by omega), tq⟩, hown5, hb4, hsz4, by rw [← unhide HN, unhide HQ]; exact unhide HG, by omega⟩
      case measure => rw [unhide HL, unhide HL0]; omega

theorem infoB : (Tryz.prog.info? 5).map (fun i => (i.zero, i.size, i.bytes)) = some (some (.int .u8 0), 1, 1) := by kernel_rfl

/-- The i-th of nine decimal digits. -/
def dig9 (gr i : Nat) : Nat := gr / (100000000 / 10 ^ i) % 10

theorem dig9_le (gr i : Nat) : dig9 gr i ≤ 9 := by unfold dig9; omega

theorem dec_dig9 (gr : Nat) (h : gr < 1000000000) : dec (dig9 gr) 9 = gr := by
  simp only [dec, dig9]
  simp only [Nat.reducePow, Nat.reduceDiv]
  omega

theorem unit_step (i : Nat) : 100000000 / 10 ^ i / 10 = 100000000 / 10 ^ (i + 1) := by
  rw [Nat.div_div_eq_div_mul, Nat.pow_succ]

theorem unit_pos (i : Nat) (h : i < 9) : 1 ≤ 100000000 / 10 ^ i ∧ 100000000 / 10 ^ i ≤ 100000000 := by
  refine ⟨?_, Nat.div_le_self _ _⟩
  rw [Nat.le_div_iff_mul_le (Nat.pos_of_ne_zero (by simp)), Nat.one_mul]
  exact Nat.le_trans (Nat.pow_le_pow_right (by decide) (show i ≤ 8 by omega)) (by decide)

/-- t behind, s ahead from place n on. -/
def glue (t s : Nat → Nat) (n : Nat) : Nat → Nat := fun i => if i < n then t i else s (i - n)

theorem glue_lo {t s : Nat → Nat} {n i : Nat} (h : i < n) : glue t s n i = t i := by simp [glue, h]

theorem glue_hi {t s : Nat → Nat} {n i : Nat} : glue t s n (n + i) = s i := by simp [glue]; intro h; omega

set_option maxRecDepth 4000 in
set_option maxHeartbeats 1000000 in
theorem appendGroup_any (base : Nat) (v : Value) (n gr : Nat) (t : Nat → Nat) (w : World) (hv : Own .u8 5 w base v n t) (hgr : gr < 4294967296) (hn : n + 9 ≤ 140737488355328) (hbase : base ≤ w.heap.size) :
    Calls Tryz.prog 84 #[v, .int .u32 gr] w fun e w' => ∃ v', e = .returned v' ∧ Own .u8 5 w' base v' (n + 9) (glue t (fun i => 48 + dig9 gr i) n) ∧ Below base w w' := by
  obtain ⟨i, hi, hz0, hz1, hz2⟩ := info_parts infoB
  go_enter Tryz.func84, Tryz.ntmps84
  go_wp2_with fail
  go_loopw [0, 5] (fun u0 t5 wr => ∃ j : Nat, j ≤ 9 ∧ t5 = .int .u32 (100000000 / 10 ^ j : Nat) ∧ Own .u8 5 wr base u0 (n + j) (glue t (fun i => 48 + dig9 gr i) n) ∧ Below base w wr ∧ base ≤ wr.heap.size) (fun u0 _ _ => n + 9 - lenOf u0)
  case atStart => exact ⟨0, by omega, rfl, by
    rcases hv with ⟨h, h'⟩ | ⟨g, cap, h, h1, h2, h3⟩
    · exact .inl ⟨h, h'⟩
    · exact .inr ⟨g, cap, h, h1, h2, h3.congr (fun i hi => (glue_lo hi).symm)⟩, Below.refl _ _, hbase⟩
  case round =>
    obtain ⟨j, hj, rfl, hown, hbel, hsz⟩ := hrel
    by_cases hj9 : j < 9
    · obtain ⟨hu1, hu2⟩ := unit_pos j hj9
      have hrow := hown.row
      have HU := hide (unit_step j)
      have HQ := hide (show dig9 gr j = gr / (100000000 / 10 ^ j) % 10 from rfl)
      generalize 100000000 / 10 ^ j = un at *
      have hq : (gr : Int) / (un : Int) = ((gr / un : Nat) : Int) := by simp
      have hql : gr / un ≤ gr := Nat.div_le_self _ _
      generalize gr / un = q at *
      go_wp2_with (at_builtin; refine wpList_append_own _ rfl _ _ 37 rfl base 5 i (.int .u8 0) 1 1 Tryz.underlying37 hi hz0 hz1 hz2 rfl (by decide) _ _ _ rfl (hrow.alloc _) ⟨wr.heap.size, 0, none⟩ 1 1 [.int .u8 (48 + (q : Int) % 10)] rfl rfl (cells_one _ _ _) (fun u hu => by simp at hu; subst hu; rfl) (by unfold maxLen; omega) (by omega) (by simp; omega) ?_; intro v4 w4 hown4 hgrow4 hx4)
      have hown5 : Own .u8 5 w4 base v4 (n + (j + 1)) (glue t (fun i => 48 + dig9 gr i) n) := Own.of_row hown4 (fun k hk => by
        by_cases e : k = n + j
        · subst e
          rw [glue_hi, unhide HQ, List.getElem?_append_right (by rw [cellsOf_length]; exact Nat.le_refl _), cellsOf_length]
          simp
        · rw [List.getElem?_append_left (by rw [cellsOf_length]; omega), cellsOf_get _ _ _ _ (by omega)])
      have hb4 : Below base w w4 := (hbel.alloc hsz _).grown hgrow4 (by simp; omega) (fun k hk => (hrow.lt k hk).1)
      have hsz4 : base ≤ w4.heap.size := by have := hgrow4.size; simp at this; omega
      have hlen : lenOf v4 = n + (j + 1) := by
        rcases hown5 with ⟨h, h'⟩ | ⟨g, cp, h, _⟩
        · omega
        · rw [h]; rfl
      have hlen0 : lenOf u0 = n + j := by
        rcases hown with ⟨h, h'⟩ | ⟨g, cp, h, _⟩
        · rw [h, h']; rfl
        · rw [h]; rfl
      have HL := hide hlen
      have HL0 := hide hlen0
      clear hrow hown hown4 hgrow4 hbel hlen hlen0 hx4
      go_wp2_with fail
      go_roundw
      case rel => exact ⟨j + 1, by omega, by rw [← unhide HU]; go_num, hown5, hb4, hsz4⟩
      case measure => rw [unhide HL, unhide HL0]; omega
    · obtain rfl : j = 9 := by omega
      go_wp2_with fail
      go_ret
      exact ⟨_, rfl, hown, hbel⟩

theorem Own.congr {k : IntKind} {E : TypeId} {w : World} {base : Nat} {v : Value} {n : Nat} {f f' : Nat → Nat} (h : Own k E w base v n f) (hf : ∀ i, i < n → f i = f' i) : Own k E w base v n f' := by
  rcases h with ⟨h, h'⟩ | ⟨g, cap, h, h1, h2, h3⟩
  · exact .inl ⟨h, h'⟩
  · exact .inr ⟨g, cap, h, h1, h2, h3.congr hf⟩

/-- The text of L digits. -/
def digText (d : Nat → Nat) (L : Nat) : List UInt8 := (List.range L).map fun i => UInt8.ofNat (48 + d i)

theorem digText_length (d : Nat → Nat) (L : Nat) : (digText d L).length = L := by simp [digText]

theorem digText_get (d : Nat → Nat) (L i : Nat) (h : i < (digText d L).length) (hd : d i ≤ 9) : (digText d L)[i].toNat = 48 + d i := by
  simp only [digText, List.getElem_map, List.getElem_range]
  rw [UInt8.toNat_ofNat']
  omega

/-- s says the number x in decimal digits, the shortest. -/
def Says (s : ByteArray) (x : Nat) : Prop := ∃ d : Nat → Nat, 1 ≤ s.size ∧ (∀ i (h : i < s.size), s[i].toNat = 48 + d i ∧ d i ≤ 9) ∧ dec d s.size = x ∧ (s.size = 1 ∨ d 0 ≠ 0)

theorem says_mk (d : Nat → Nat) (L x : Nat) (hd : ∀ i, i < L → d i ≤ 9) (hL : 1 ≤ L) (hx : dec d L = x) (h0 : L = 1 ∨ d 0 ≠ 0) : Says ⟨(digText d L).toArray⟩ x := by
  have hs : (⟨(digText d L).toArray⟩ : ByteArray).size = L := by simp [ByteArray.size, digText_length]
  refine ⟨d, by omega, fun i h => ?_, by rw [hs]; exact hx, by rw [hs]; exact h0⟩
  have hi : i < L := by omega
  refine ⟨?_, hd i hi⟩
  rw [← digText_get d L i (by rw [digText_length]; exact hi) (hd i hi)]
  rfl

theorem glue_digits (d e : Nat → Nat) (n : Nat) : ∀ i, glue (fun i => 48 + d i) (fun i => 48 + e i) n i = 48 + glue d e n i := by
  intro i
  unfold glue
  split <;> rfl

theorem dec_glue (d : Nat → Nat) (gr L : Nat) (h : gr < 1000000000) : dec (glue d (dig9 gr) L) (L + 9) = dec d L * 1000000000 + gr := by
  rw [dec_split, dec_congr (d := glue d (dig9 gr) L) (e := d) (k := L) (fun i hi => glue_lo hi), dec_congr (d := fun i => glue d (dig9 gr) L (L + i)) (e := dig9 gr) (k := 9) (fun i hi => glue_hi), dec_dig9 gr h]

theorem glue_le {d : Nat → Nat} {gr L : Nat} (hd : ∀ i, i < L → d i ≤ 9) : ∀ i, i < L + 9 → glue d (dig9 gr) L i ≤ 9 := by
  intro i hi
  by_cases h : i < L
  · rw [glue_lo h]; exact hd i h
  · obtain ⟨j, rfl⟩ : ∃ j, i = L + j := ⟨i - L, by omega⟩
    rw [glue_hi]; exact dig9_le gr j

theorem num_top (B : Nat) (G : Nat → Nat) (j m : Nat) (h : j < m) : num B (fun i => G (j + i)) (m - j) = G j + B * num B (fun i => G (j + 1 + i)) (m - (j + 1)) := by
  rw [show m - j = m - (j + 1) + 1 from by omega, num_head, Nat.add_zero]
  rw [num_congr (f := fun i => G (j + (1 + i))) (g := fun i => G (j + 1 + i)) (fun i _ => by rw [← Nat.add_assoc])]

/-- 'string(b)', b a row of digits of one's own. -/
theorem conv_digits (w : World) (g cap L N : Nat) (d : Nat → Nat) (hd : ∀ i, i < L → d i ≤ 9) (hr : RowAt .u8 5 w g N L (fun i => 48 + d i)) :
    (convert 37 9 (.slice (some ⟨g, 0, none⟩) L cap)).run Tryz.prog w = .ok (.string ⟨(digText d L).toArray⟩) w := by
  have := run_convert_bytes_back (P := Tryz.prog) w 37 9 5 ⟨g, 0, none⟩ cap (digText d L) Tryz.underlying37 Tryz.underlying5 Tryz.underlying9 (fun j hj => by
    have hjL : j < L := by rw [digText_length] at hj; exact hj
    rw [Addr.add_lit, Nat.zero_add, hr.cell hjL, digText_get d L j hj (hd j hjL)])
  rw [digText_length] at this
  exact this

/-- Behind k digits: the row from 'off' on holds f's digits and x times h's, but for the carry c. -/
def TimesRel (f h : Nat → Nat) (x off n k : Nat) (f' : Nat → Nat) (c : Nat) : Prop :=
  c < 4294967296 ∧ (∀ i, ¬ (off ≤ i ∧ i < off + k) → f' i = f i) ∧ (∀ i, i < n → f' (off + i) < 4294967296) ∧
  num 4294967296 (fun i => f' (off + i)) k + c * 4294967296 ^ k = num 4294967296 (fun i => f (off + i)) k + x * num 4294967296 h k

theorem TimesRel.start {f h : Nat → Nat} {x off n : Nat} (hf : ∀ i, i < n → f (off + i) < 4294967296) : TimesRel f h x off n 0 f 0 :=
  ⟨by omega, fun _ _ => rfl, hf, by simp [num]⟩

theorem times_small {x y z c : Nat} (hx : x < 4294967296) (hy : y < 4294967296) (hz : z < 4294967296) (hc : c < 4294967296) : c + (y * x + z) < 18446744073709551616 := by
  have : y * x ≤ 4294967295 * 4294967295 := Nat.mul_le_mul (by omega) (by omega)
  omega

theorem TimesRel.step {f h f' : Nat → Nat} {x off n k c y z : Nat} (r : TimesRel f h x off n k f' c) (_hk : k < n) (hx : x < 4294967296) (hz : f' (off + k) = z) (hy : h k = y) (hyl : y < 4294967296) :
    TimesRel f h x off n (k + 1) (upd f' (off + k) ((c + (y * x + z)) % 4294967296)) ((c + (y * x + z)) / 4294967296) := by
  obtain ⟨h1, h2, h3, h4⟩ := r
  have hzl : z < 4294967296 := by rw [← hz]; exact h3 k (by omega)
  have hs := times_small hx hyl hzl h1
  refine ⟨by omega, fun i hi => ?_, fun i hi => ?_, ?_⟩
  · rw [upd_other (by omega)]
    exact h2 i (by omega)
  · by_cases e : i = k
    · rw [e, upd_same]; exact Nat.mod_lt _ (by decide)
    · rw [upd_other (by omega)]; exact h3 i hi
  · rw [num_succ, num_succ, num_succ, upd_same]
    rw [num_congr (g := fun i => f' (off + i)) (fun i hi => upd_other (by omega))]
    have e1 : f (off + k) = z := by rw [← hz]; exact (h2 _ (by omega)).symm
    rw [e1, hy, Nat.pow_succ]
    generalize 4294967296 ^ k = P at *
    generalize hS : c + (y * x + z) = S at *
    have e2 : S % 4294967296 * P + S / 4294967296 * (P * 4294967296) = S * P := by
      rw [Nat.mul_comm P, ← Nat.mul_assoc, ← Nat.add_mul, Nat.mul_comm _ 4294967296, Nat.mod_add_div]
    rw [← hS, Nat.add_mul, Nat.add_mul] at e2
    have e3 : x * (num 4294967296 h k + y * P) = x * num 4294967296 h k + y * x * P := by
      rw [Nat.mul_add, ← Nat.mul_assoc, Nat.mul_comm x y]
    rw [e3]
    rw [hS] at e2
    omega

/-- The values of a row, as a list. -/
def valsOf (vs : Nat → Value) (n : Nat) : List Value := (List.range n).map vs

theorem valsOf_get (vs : Nat → Value) (n i : Nat) (h : i < n) : (valsOf vs n)[i]? = some (vs i) := by simp [valsOf, h]

theorem Rds.cells {w w' : World} {mo : Option Addr} {k : Nat} {vs : Nat → Value} (h : Rds w mo k vs) (hb : Below w.heap.size w w') : ∀ ad, mo = some ad → ∀ j u, (valsOf vs k)[j]? = some u → w'.cell? (ad.add j) = some u := by
  rintro ad rfl j u hj
  have hl : j < k := by
    have := (List.getElem?_eq_some_iff.1 hj).1
    simpa [valsOf] using this
  rcases h.below hb (Nat.le_refl _) with h | ⟨b, off, e, hc⟩
  · omega
  · cases e
    rw [valsOf_get vs k j hl] at hj
    rw [Addr.add_lit, hc j hl]
    exact hj

theorem RowAt.sl {k : IntKind} {E : TypeId} {w : World} {g N n : Nat} {f : Nat → Nat} (h : RowAt k E w g N n f) (hN : N ≤ 9223372036854775807) : Sl k w (.slice (some ⟨g, 0, none⟩) n N) n f :=
  ⟨_, N, rfl, h.le, hN, (fun e => by cases e), h.rd⟩

theorem below_alloc (w : World) (o : Obj) : Below w.heap.size w (w.alloc o) := (Below.refl _ _).alloc (Nat.le_refl _) o

/-- Behind a call: nothing that was there has turned. -/
def Up (w w' : World) : Prop := Below w.heap.size w w'

theorem Up.tr {a b c : World} (h : Up a b) (k : Up b c) : Up a c := Below.trans h (Below.mono k (Below.size h))

theorem Up.refl (w : World) : Up w w := Below.refl _ _

theorem Sl.up {k : IntKind} {w w' : World} {v : Value} {n : Nat} {f : Nat → Nat} (h : Sl k w v n f) (u : Up w w') : Sl k w' v n f := h.below u (Nat.le_refl _)

theorem Own.up {k : IntKind} {E : TypeId} {w w' : World} {base : Nat} {v : Value} {n : Nat} {f : Nat → Nat} (h : Own k E w base v n f) (u : Up w w') : Own k E w' base v n f := h.below u (Nat.le_refl _)

end Go.Proofs.YtfplplobhmacoaaGreatDoor
