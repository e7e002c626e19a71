/-
  What is proved here: what math/bits.Add32, Sub32, Mul32, Div32 answer, as plain sums, differences, products and quotients. what the small functions without memory of their own answer: nat.trim, tandemlaw00.SameLimbs, math/bits.Add32 and others, for every argument that can be read. plain facts on adding and taking digit by digit, with a carry; no walk. nat.addInto adds one row of limbs to another in place, and nat.takeFrom takes one from another; nothing else in memory turns. tandemlaw00.CopyLimbs, tandemlaw01.c and nat.clone hand back the limbs that they were handed, in new memory; tandemlaw01.same tells that two lists are the same. nat.Add answers the canonical limbs of the sum of all that it is handed, in new memory, for fewer than 2^32 lists that fit a machine. plain facts on multiplying a number's digits by a small factor, and on decimal digits; no walk. nat.Parse answers the number that a text of decimal digits says, and true; nothing and false of any other text. nat.divideByLimb divides a row of limbs by one limb in place, and answers the rest. nat.groupsOf answers a number's digits to the base 10^9, the highest not 0; nat.appendGroup appends nine decimal digits. nat.appendGroup appends the nine decimal digits of a group to a row of bytes that is its own. strconv.AppendUint appends the one decimal digit of 4. nat.Text answers the shortest decimal digits of a number, as far as strconv.AppendUint answers those of the highest group. plain facts on multiplying digit by digit; no walk. nat.addTimes adds a multiple of one row of limbs to another in place, and nat.times answers the canonical limbs of the product of two numbers, in new memory. nat.product and nat.Mul answer the limbs of the product of all that they are handed. nat.Add and nat.Mul of two numbers, out of the contracts for as many as one likes. small facts that let one call follow another: what could be read ahead of a call can be read behind it.
-/
import Derived.Test.YteipogfolnlblaaDoorProg
import Derived.Test.YteipogfolnlblaaDoorBase
import Derived.WalkLawsBesides
import Derived.Laws.BitsAllLaws
import Derived.Laws.CopyOwn
import Derived.Laws.AppendOwnNone
import Derived.Lib.Strings
import Derived.Lib.AppendStr
import Derived.Laws.IdiomStrings
import Derived.Deep.RegionWith
import Derived.Deep.QuietTactic
import Derived.BigQuiet
namespace Go.Proofs.YteipogfolnlblaaDoor
open Go Go.RowKit
theorem ret2 {k l : IntKind} {a b c d : Int} (h : a = b) (h' : c = d) : Ending.returned (.tuple #[.int k a, .int l c]) = .returned (.tuple #[.int k b, .int l d]) := by rw [h, h']

/-- Behind k digits: the first k digits of the row (from place 'off' on) hold f's and h's sum but for the carry c; all else in the row is f's. -/
def AddRel (f h : Nat → Nat) (off n k : Nat) (f' : Nat → Nat) (c : Nat) : Prop :=
  c ≤ 1 ∧ (∀ i, ¬ (off ≤ i ∧ i < off + k) → f' i = f i) ∧ (∀ i, i < n → f' (off + i) < 4294967296) ∧
  num 4294967296 (fun i => f' (off + i)) k + c * 4294967296 ^ k = num 4294967296 (fun i => f (off + i)) k + num 4294967296 h k

theorem AddRel.start {f h : Nat → Nat} {off n : Nat} (hf : ∀ i, i < n → f (off + i) < 4294967296) : AddRel f h off n 0 f 0 :=
  ⟨by omega, fun _ _ => rfl, hf, by simp [num]⟩

theorem AddRel.step {f h f' : Nat → Nat} {off n k c x y : Nat} (r : AddRel f h off n k f' c) (_hk : k < n) (hx : f' (off + k) = x) (hy : h k = y) (hyl : y < 4294967296) :
    AddRel f h off n (k + 1) (upd f' (off + k) ((x + y + c) % 4294967296)) ((x + y + c) / 4294967296) := by
  obtain ⟨h1, h2, h3, h4⟩ := r
  have hxl : x < 4294967296 := by rw [← hx]; exact h3 k (by omega)
  refine ⟨by omega, fun i hi => ?_, fun i hi => ?_, ?_⟩
  · rw [upd_other (by omega)]
    exact h2 i (by omega)
  · by_cases e : i = k
    · rw [e, upd_same]; exact Nat.mod_lt _ (by decide)
    · rw [upd_other (by omega)]; exact h3 i hi
  · rw [num_succ, num_succ, num_succ, upd_same]
    rw [num_congr (g := fun i => f' (off + i)) (fun i hi => upd_other (by omega))]
    have e1 : f (off + k) = x := by rw [← hx]; exact (h2 _ (by omega)).symm
    rw [e1, hy, Nat.pow_succ]
    generalize 4294967296 ^ k = P at *
    have e2 : (x + y + c) % 4294967296 * P + (x + y + c) / 4294967296 * (P * 4294967296) = (x + y + c) * P := by
      rw [Nat.mul_comm P, ← Nat.mul_assoc, ← Nat.add_mul, Nat.mul_comm _ 4294967296, Nat.mod_add_div]
    rw [Nat.add_mul, Nat.add_mul] at e2
    omega

/-- No carry is left: the higher digits stand. -/
theorem AddRel.rest {f h f' : Nat → Nat} {off n k : Nat} (r : AddRel f h off n k f' 0) (hk : k ≤ n) (hz : ∀ i, k ≤ i → i < n → h i = 0) : AddRel f h off n n f' 0 := by
  obtain ⟨h1, h2, h3, h4⟩ := r
  refine ⟨h1, fun i hi => h2 i (by omega), h3, ?_⟩
  obtain ⟨d, rfl⟩ : ∃ d, n = k + d := ⟨n - k, by omega⟩
  rw [num_tail (n := k) (m := k + d) hk hz, num_split, num_split 4294967296 (fun i => f (off + i))]
  rw [num_congr (g := fun i => f (off + (k + i))) (n := d) (fun i hi => h2 _ (by omega))]
  omega

/-- Behind k digits: f less h, but for what was borrowed. -/
def SubRel (f h : Nat → Nat) (off n k : Nat) (f' : Nat → Nat) (c : Nat) : Prop :=
  c ≤ 1 ∧ (∀ i, ¬ (off ≤ i ∧ i < off + k) → f' i = f i) ∧ (∀ i, i < n → f' (off + i) < 4294967296) ∧
  num 4294967296 (fun i => f' (off + i)) k + num 4294967296 h k = num 4294967296 (fun i => f (off + i)) k + c * 4294967296 ^ k

theorem SubRel.start {f h : Nat → Nat} {off n : Nat} (hf : ∀ i, i < n → f (off + i) < 4294967296) : SubRel f h off n 0 f 0 :=
  ⟨by omega, fun _ _ => rfl, hf, by simp [num]⟩

theorem SubRel.step {f h f' : Nat → Nat} {off n k c x y d b : Nat} (r : SubRel f h off n k f' c) (_hk : k < n) (hx : f' (off + k) = x) (hy : h k = y) (hd : d < 4294967296) (hb : b ≤ 1) (hs : d + y + c = x + 4294967296 * b) :
    SubRel f h off n (k + 1) (upd f' (off + k) d) b := by
  obtain ⟨h1, h2, h3, h4⟩ := r
  refine ⟨hb, fun i hi => ?_, fun i hi => ?_, ?_⟩
  · rw [upd_other (by omega)]
    exact h2 i (by omega)
  · by_cases e : i = k
    · rw [e, upd_same]; exact hd
    · rw [upd_other (by omega)]; exact h3 i hi
  · rw [num_succ, num_succ, num_succ, upd_same]
    rw [num_congr (g := fun i => f' (off + i)) (fun i hi => upd_other (by omega))]
    have e1 : f (off + k) = x := by rw [← hx]; exact (h2 _ (by omega)).symm
    rw [e1, hy, Nat.pow_succ]
    generalize 4294967296 ^ k = P at *
    have e2 : (d + y + c) * P = (x + 4294967296 * b) * P := by rw [hs]
    rw [Nat.add_mul, Nat.add_mul, Nat.add_mul] at e2
    have e3 : 4294967296 * b * P = b * (P * 4294967296) := by rw [Nat.mul_comm 4294967296 b, Nat.mul_assoc, Nat.mul_comm 4294967296 P]
    omega

theorem SubRel.rest {f h f' : Nat → Nat} {off n k : Nat} (r : SubRel f h off n k f' 0) (hk : k ≤ n) (hz : ∀ i, k ≤ i → i < n → h i = 0) : SubRel f h off n n f' 0 := by
  obtain ⟨h1, h2, h3, h4⟩ := r
  refine ⟨h1, fun i hi => h2 i (by omega), h3, ?_⟩
  obtain ⟨d, rfl⟩ : ∃ d, n = k + d := ⟨n - k, by omega⟩
  rw [num_tail (n := k) (m := k + d) hk hz, num_split, num_split 4294967296 (fun i => f (off + i))]
  rw [num_congr (g := fun i => f (off + (k + i))) (n := d) (fun i hi => h2 _ (by omega))]
  omega

/-- h, and noughts from m on. -/
def cut (h : Nat → Nat) (m : Nat) : Nat → Nat := fun i => if i < m then h i else 0

theorem infoU : (Tryd.prog.info? 63).map (fun i => (i.zero, i.size, i.bytes)) = some (some (.int .u32 0), 1, 4) := by kernel_rfl

theorem cellsOf_read {k : IntKind} {w : World} {b off n : Nat} {f : Nat → Nat} (hc : ∀ i, i < n → w.cell? ⟨b, off + i, none⟩ = some (.int k (f i))) : ∀ j u, (cellsOf k f n)[j]? = some u → w.cell? ((⟨b, off, none⟩ : Addr).add j) = some u := by
  intro j u hj
  have hl : j < n := by
    have := (List.getElem?_eq_some_iff.1 hj).1
    simpa [cellsOf] using this
  rw [cellsOf_get k f n j hl] at hj
  rw [Addr.add_lit, hc j hl]
  exact hj

/-- Where what is read lies, as the laws on copy and append ask it. -/
theorem Rd.cells {k : IntKind} {w : World} {ao : Option Addr} {n : Nat} {f : Nat → Nat} (h : Rd k w ao n f) : 0 < n → ∃ b off, ao = some ⟨b, off, none⟩ ∧ b < w.heap.size ∧ ∀ j u, (cellsOf k f n)[j]? = some u → w.cell? ((⟨b, off, none⟩ : Addr).add j) = some u := by
  intro hn
  rcases h with h | ⟨b, off, rfl, hc⟩
  · omega
  · exact ⟨b, off, rfl, Rd.lt hc hn, cellsOf_read hc⟩

theorem cells_one (w : World) (a : Value) (E : TypeId) : ∀ j u, [a][j]? = some u → (w.alloc (.cells #[a] E)).cell? ((⟨w.heap.size, 0, none⟩ : Addr).add j) = some u := by
  intro j u hj
  rw [Addr.add_lit, cell_of_row _ _ _ _ _ _ (heap_alloc_new w _), Nat.zero_add]
  simpa using hj

/-- m slices, read from an address on. -/
def Rds (w : World) (mo : Option Addr) (m : Nat) (vs : Nat → Value) : Prop :=
  m = 0 ∨ ∃ b off, mo = some ⟨b, off, none⟩ ∧ ∀ i, i < m → w.cell? ⟨b, off + i, none⟩ = some (vs i)

theorem Rds.below {B : Nat} {w w' : World} {mo : Option Addr} {m : Nat} {vs : Nat → Value} (h : Rds w mo m vs) (hb : Below B w w') (hB : w.heap.size ≤ B) : Rds w' mo m vs := by
  rcases h with h | ⟨b, off, rfl, hc⟩
  · exact .inl h
  · by_cases hn : m = 0
    · exact .inl hn
    · have hl : b < w.heap.size := World.block_lt_of_cell? w _ (hc 0 (by omega))
      exact .inr ⟨b, off, rfl, fun i hi => (hb.cell (p := ⟨b, off + i, none⟩) (by show b < B; omega)).trans (hc i hi)⟩

theorem Rd.apart {k : IntKind} {w : World} {ao : Option Addr} {n : Nat} {f : Nat → Nat} {g : Nat} (h : Rd k w ao n f) (hg : w.heap.size ≤ g) : ∀ a, ao = some a → n ≠ 0 → a.block ≠ g := by
  rintro a rfl hn
  rcases h with h | ⟨b, off, e, hc⟩
  · exact absurd h hn
  · cases e
    have := Rd.lt hc (by omega)
    show b ≠ g
    omega

theorem RowAt.own {k : IntKind} {E : TypeId} {w : World} {base g N n : Nat} {f : Nat → Nat} (h : RowAt k E w g N n f) (hb : base ≤ g) (hN : N ≤ 9223372036854775807) : Own k E w base (.slice (some ⟨g, 0, none⟩) n N) n f :=
  .inr ⟨g, N, rfl, hb, hN, h⟩

/-- Behind k digits: f's first k digits times d, and c0, but for the carry c. -/
def ScaleRel (f : Nat → Nat) (d c0 n k : Nat) (f' : Nat → Nat) (c : Nat) : Prop :=
  c < d ∧ (∀ i, k ≤ i → f' i = f i) ∧ (∀ i, i < n → f' i < 4294967296) ∧ num 4294967296 f' k + c * 4294967296 ^ k = num 4294967296 f k * d + c0

theorem ScaleRel.start {f : Nat → Nat} {d c0 n : Nat} (hf : ∀ i, i < n → f i < 4294967296) (hc : c0 < d) : ScaleRel f d c0 n 0 f c0 :=
  ⟨hc, fun _ _ => rfl, hf, by simp [num]⟩

theorem ScaleRel.step {f f' : Nat → Nat} {d c0 n k c x : Nat} (r : ScaleRel f d c0 n k f' c) (_hk : k < n) (hx : f' k = x) :
    ScaleRel f d c0 n (k + 1) (upd f' k ((x * d + c) % 4294967296)) ((x * d + c) / 4294967296) := by
  obtain ⟨h1, h2, h3, h4⟩ := r
  have hxl : x < 4294967296 := by rw [← hx]; exact h3 k (by omega)
  have hs : x * d + c < 4294967296 * d := by
    have : (x + 1) * d ≤ 4294967296 * d := Nat.mul_le_mul_right _ hxl
    rw [Nat.add_mul, Nat.one_mul] at this
    omega
  refine ⟨(Nat.div_lt_iff_lt_mul (by decide)).2 (Nat.mul_comm 4294967296 d ▸ hs), fun i hi => ?_, fun i hi => ?_, ?_⟩
  · rw [upd_other (by omega)]
    exact h2 i (by omega)
  · by_cases e : i = k
    · rw [e, upd_same]; exact Nat.mod_lt _ (by decide)
    · rw [upd_other (by omega)]; exact h3 i hi
  · rw [num_succ, num_succ, upd_same]
    rw [num_congr (g := f') (fun i hi => upd_other (by omega))]
    have e1 : f k = x := by rw [← hx]; exact (h2 _ (by omega)).symm
    rw [e1, Nat.pow_succ]
    generalize 4294967296 ^ k = P at *
    have e2 : (x * d + c) % 4294967296 * P + (x * d + c) / 4294967296 * (P * 4294967296) = (x * d + c) * P := by
      rw [Nat.mul_comm P, ← Nat.mul_assoc, ← Nat.add_mul, Nat.mul_comm _ 4294967296, Nat.mod_add_div]
    rw [Nat.add_mul (x * d)] at e2
    have e3 : (num 4294967296 f k + x * P) * d = num 4294967296 f k * d + x * d * P := by
      rw [Nat.add_mul, Nat.mul_assoc, Nat.mul_comm P, ← Nat.mul_assoc]
    rw [e3]
    omega

/-- Great enough: the highest digit is not 0. -/
theorem top_of_ge {B : Nat} {f : Nat → Nat} {n : Nat} (hf : ∀ i, i < n → f i < B) (hn : 0 < n) (h : B ^ (n - 1) ≤ num B f n) : f (n - 1) ≠ 0 := by
  intro e
  have h1 := num_lt (B := B) (f := f) (n := n - 1) (fun i hi => hf i (by omega))
  have h2 : num B f n = num B f (n - 1) := num_tail (by omega) (fun i h1 h2 => by rw [show i = n - 1 from by omega]; exact e)
  omega

theorem ScaleRel.can {f f' : Nat → Nat} {d c0 n : Nat} (r : ScaleRel f d c0 n n f' 0) (hd : 0 < d) (hf : Can 4294967296 f n) : Can 4294967296 f' n := by
  refine ⟨r.2.2.1, ?_⟩
  by_cases hn : n = 0
  · exact .inl hn
  · refine .inr (top_of_ge r.2.2.1 (by omega) ?_)
    have h1 := num_ge (B := 4294967296) (f := f) (n := n) (by omega) (by rcases hf.2 with h | h; omega; exact h)
    have h2 := r.2.2.2
    have h3 : num 4294967296 f n * 1 ≤ num 4294967296 f n * d := Nat.mul_le_mul_left _ hd
    omega

/-- The number that decimal digits say, the highest first. -/
def dec (d : Nat → Nat) : Nat → Nat
  | 0 => 0
  | k + 1 => dec d k * 10 + d k

theorem dec_split (d : Nat → Nat) (a b : Nat) : dec d (a + b) = dec d a * 10 ^ b + dec (fun i => d (a + i)) b := by
  induction b with
  | zero => simp [dec]
  | succ b ih =>
    rw [← Nat.add_assoc, dec, ih, dec, Nat.pow_succ, Nat.add_mul, Nat.mul_assoc, Nat.add_assoc]

theorem dec_lt {d : Nat → Nat} {k : Nat} (h : ∀ i, i < k → d i ≤ 9) : dec d k < 10 ^ k := by
  induction k with
  | zero => simp [dec]
  | succ k ih =>
    have h1 := ih (fun i hi => h i (by omega))
    have h2 := h k (by omega)
    rw [dec, Nat.pow_succ]
    omega

theorem dec_congr {d e : Nat → Nat} {k : Nat} (h : ∀ i, i < k → d i = e i) : dec d k = dec e k := by
  induction k with
  | zero => rfl
  | succ k ih => rw [dec, dec, ih (fun i hi => h i (by omega)), h k (by omega)]

theorem num_head (B : Nat) (f : Nat → Nat) (k : Nat) : num B f (k + 1) = f 0 + B * num B (fun i => f (1 + i)) k := by
  rw [Nat.add_comm, num_split]
  simp [num]

/-- From place j on: the digits of f' times d, and the rest r, make the digits of f. -/
def DivRel (f : Nat → Nat) (d n j : Nat) (f' : Nat → Nat) (r : Nat) : Prop :=
  r < d ∧ (∀ i, i < j → f' i = f i) ∧ (∀ i, j ≤ i → i < n → f' i < 4294967296) ∧
  num 4294967296 (fun i => f' (j + i)) (n - j) * d + r = num 4294967296 (fun i => f (j + i)) (n - j)

theorem DivRel.start {f : Nat → Nat} {d n : Nat} (hd : 0 < d) : DivRel f d n n f 0 :=
  ⟨hd, fun _ _ => rfl, fun i h1 h2 => by omega, by simp [num]⟩

theorem DivRel.step {f f' : Nat → Nat} {d n j r x : Nat} (h : DivRel f d n (j + 1) f' r) (hj : j < n) (hx : f' j = x) (hxl : x < 4294967296) :
    DivRel f d n j (upd f' j ((r * 4294967296 + x) / d)) ((r * 4294967296 + x) % d) := by
  obtain ⟨h1, h2, h3, h4⟩ := h
  have hd : 0 < d := by omega
  have hq : (r * 4294967296 + x) / d < 4294967296 := by
    rw [Nat.div_lt_iff_lt_mul hd]
    have : (r + 1) * 4294967296 ≤ d * 4294967296 := Nat.mul_le_mul_right _ h1
    rw [Nat.mul_comm 4294967296 d]
    omega
  refine ⟨Nat.mod_lt _ hd, fun i hi => ?_, fun i hi1 hi2 => ?_, ?_⟩
  · rw [upd_other (by omega)]
    exact h2 i (by omega)
  · by_cases e : i = j
    · rw [e, upd_same]; exact hq
    · rw [upd_other e]; exact h3 i (by omega) hi2
  · have e0 : n - j = n - (j + 1) + 1 := by omega
    rw [e0, num_head, num_head, Nat.add_zero, upd_same]
    have e1 : f j = x := by rw [← hx]; exact (h2 j (by omega)).symm
    rw [e1]
    rw [num_congr (f := fun i => upd f' j ((r * 4294967296 + x) / d) (j + (1 + i))) (g := fun i => f' (j + 1 + i)) (fun i _ => by rw [upd_other (by omega), ← Nat.add_assoc])]
    rw [num_congr (f := fun i => f (j + (1 + i))) (g := fun i => f (j + 1 + i)) (fun i _ => by rw [← Nat.add_assoc])]
    have e2 := Nat.div_add_mod (r * 4294967296 + x) d
    rw [← h4]
    generalize (r * 4294967296 + x) / d = q at *
    generalize (r * 4294967296 + x) % d = s at *
    generalize num 4294967296 (fun i => f' (j + 1 + i)) (n - (j + 1)) = T at *
    rw [Nat.add_mul, Nat.mul_add, Nat.mul_assoc]
    rw [Nat.mul_comm d q] at e2
    omega

theorem DivRel.done {f f' : Nat → Nat} {d n r : Nat} (h : DivRel f d n 0 f' r) : num 4294967296 f' n = num 4294967296 f n / d ∧ r = num 4294967296 f n % d := by
  obtain ⟨h1, h2, h3, h4⟩ := h
  have e0 : ∀ q : Nat → Nat, (fun i => q (0 + i)) = q := fun q => by funext i; rw [Nat.zero_add]
  rw [e0, e0, Nat.sub_zero] at h4
  rw [← h4]
  constructor
  · rw [Nat.mul_comm, Nat.mul_add_div (by omega), Nat.div_eq_of_lt h1, Nat.add_zero]
  · rw [Nat.mul_comm, Nat.mul_add_mod, Nat.mod_eq_of_lt h1]

def lenOf : Value → Nat | .slice _ n _ => n | _ => 0

/-- Behind k groups: V is the k groups and what is left, X, behind them. -/
def GroupRel (V k : Nat) (G : Nat → Nat) (X : Nat) : Prop :=
  (∀ i, i < k → G i < 1000000000) ∧ V = num 1000000000 G k + X * 1000000000 ^ k ∧ (X = 0 → k = 0 ∨ G (k - 1) ≠ 0)

theorem GroupRel.step {V k X : Nat} {G : Nat → Nat} (h : GroupRel V k G X) (hX : 0 < X) : GroupRel V (k + 1) (upd G k (X % 1000000000)) (X / 1000000000) := by
  obtain ⟨h1, h2, h3⟩ := h
  refine ⟨fun i hi => ?_, ?_, fun hz => .inr ?_⟩
  · by_cases e : i = k
    · rw [e, upd_same]; exact Nat.mod_lt _ (by decide)
    · rw [upd_other e]; exact h1 i (by omega)
  · rw [num_succ, upd_same, num_congr (g := G) (fun i hi => upd_other (by omega)), h2, Nat.pow_succ]
    generalize 1000000000 ^ k = P
    have : X % 1000000000 * P + X / 1000000000 * (P * 1000000000) = X * P := by
      rw [Nat.mul_comm P, ← Nat.mul_assoc, ← Nat.add_mul, Nat.mul_comm _ 1000000000, Nat.mod_add_div]
    omega
  · rw [Nat.add_sub_cancel, upd_same]
    omega

theorem Own.congr {k : IntKind} {E : TypeId} {w : World} {base : Nat} {v : Value} {n : Nat} {f f' : Nat → Nat} (h : Own k E w base v n f) (hf : ∀ i, i < n → f i = f' i) : Own k E w base v n f' := by
  rcases h with ⟨h, h'⟩ | ⟨g, cap, h, h1, h2, h3⟩
  · exact .inl ⟨h, h'⟩
  · exact .inr ⟨g, cap, h, h1, h2, h3.congr hf⟩

/-- s says the number x in decimal digits, the shortest. -/
def Says (s : ByteArray) (x : Nat) : Prop := ∃ d : Nat → Nat, 1 ≤ s.size ∧ (∀ i (h : i < s.size), s[i].toNat = 48 + d i ∧ d i ≤ 9) ∧ dec d s.size = x ∧ (s.size = 1 ∨ d 0 ≠ 0)

/-- Behind k digits: the row from 'off' on holds f's digits and x times h's, but for the carry c. -/
def TimesRel (f h : Nat → Nat) (x off n k : Nat) (f' : Nat → Nat) (c : Nat) : Prop :=
  c < 4294967296 ∧ (∀ i, ¬ (off ≤ i ∧ i < off + k) → f' i = f i) ∧ (∀ i, i < n → f' (off + i) < 4294967296) ∧
  num 4294967296 (fun i => f' (off + i)) k + c * 4294967296 ^ k = num 4294967296 (fun i => f (off + i)) k + x * num 4294967296 h k

theorem TimesRel.start {f h : Nat → Nat} {x off n : Nat} (hf : ∀ i, i < n → f (off + i) < 4294967296) : TimesRel f h x off n 0 f 0 :=
  ⟨by omega, fun _ _ => rfl, hf, by simp [num]⟩

theorem times_small {x y z c : Nat} (hx : x < 4294967296) (hy : y < 4294967296) (hz : z < 4294967296) (hc : c < 4294967296) : c + (y * x + z) < 18446744073709551616 := by
  have : y * x ≤ 4294967295 * 4294967295 := Nat.mul_le_mul (by omega) (by omega)
  omega

theorem TimesRel.step {f h f' : Nat → Nat} {x off n k c y z : Nat} (r : TimesRel f h x off n k f' c) (_hk : k < n) (hx : x < 4294967296) (hz : f' (off + k) = z) (hy : h k = y) (hyl : y < 4294967296) :
    TimesRel f h x off n (k + 1) (upd f' (off + k) ((c + (y * x + z)) % 4294967296)) ((c + (y * x + z)) / 4294967296) := by
  obtain ⟨h1, h2, h3, h4⟩ := r
  have hzl : z < 4294967296 := by rw [← hz]; exact h3 k (by omega)
  have hs := times_small hx hyl hzl h1
  refine ⟨by omega, fun i hi => ?_, fun i hi => ?_, ?_⟩
  · rw [upd_other (by omega)]
    exact h2 i (by omega)
  · by_cases e : i = k
    · rw [e, upd_same]; exact Nat.mod_lt _ (by decide)
    · rw [upd_other (by omega)]; exact h3 i hi
  · rw [num_succ, num_succ, num_succ, upd_same]
    rw [num_congr (g := fun i => f' (off + i)) (fun i hi => upd_other (by omega))]
    have e1 : f (off + k) = z := by rw [← hz]; exact (h2 _ (by omega)).symm
    rw [e1, hy, Nat.pow_succ]
    generalize 4294967296 ^ k = P at *
    generalize hS : c + (y * x + z) = S at *
    have e2 : S % 4294967296 * P + S / 4294967296 * (P * 4294967296) = S * P := by
      rw [Nat.mul_comm P, ← Nat.mul_assoc, ← Nat.add_mul, Nat.mul_comm _ 4294967296, Nat.mod_add_div]
    rw [← hS, Nat.add_mul, Nat.add_mul] at e2
    have e3 : x * (num 4294967296 h k + y * P) = x * num 4294967296 h k + y * x * P := by
      rw [Nat.mul_add, ← Nat.mul_assoc, Nat.mul_comm x y]
    rw [e3]
    rw [hS] at e2
    omega

/-- The values of a row, as a list. -/
def valsOf (vs : Nat → Value) (n : Nat) : List Value := (List.range n).map vs

theorem valsOf_get (vs : Nat → Value) (n i : Nat) (h : i < n) : (valsOf vs n)[i]? = some (vs i) := by simp [valsOf, h]

theorem Rds.cells {w w' : World} {mo : Option Addr} {k : Nat} {vs : Nat → Value} (h : Rds w mo k vs) (hb : Below w.heap.size w w') : ∀ ad, mo = some ad → ∀ j u, (valsOf vs k)[j]? = some u → w'.cell? (ad.add j) = some u := by
  rintro ad rfl j u hj
  have hl : j < k := by
    have := (List.getElem?_eq_some_iff.1 hj).1
    simpa [valsOf] using this
  rcases h.below hb (Nat.le_refl _) with h | ⟨b, off, e, hc⟩
  · omega
  · cases e
    rw [valsOf_get vs k j hl] at hj
    rw [Addr.add_lit, hc j hl]
    exact hj

theorem RowAt.sl {k : IntKind} {E : TypeId} {w : World} {g N n : Nat} {f : Nat → Nat} (h : RowAt k E w g N n f) (hN : N ≤ 9223372036854775807) : Sl k w (.slice (some ⟨g, 0, none⟩) n N) n f :=
  ⟨_, N, rfl, h.le, hN, (fun e => by cases e), h.rd⟩

theorem below_alloc (w : World) (o : Obj) : Below w.heap.size w (w.alloc o) := (Below.refl _ _).alloc (Nat.le_refl _) o

/-- Behind a call: nothing that was there has turned. -/
def Up (w w' : World) : Prop := Below w.heap.size w w'

theorem Up.tr {a b c : World} (h : Up a b) (k : Up b c) : Up a c := Below.trans h (Below.mono k (Below.size h))

theorem Up.refl (w : World) : Up w w := Below.refl _ _

theorem Sl.up {k : IntKind} {w w' : World} {v : Value} {n : Nat} {f : Nat → Nat} (h : Sl k w v n f) (u : Up w w') : Sl k w' v n f := h.below u (Nat.le_refl _)

theorem Own.up {k : IntKind} {E : TypeId} {w w' : World} {base : Nat} {v : Value} {n : Nat} {f : Nat → Nat} (h : Own k E w base v n f) (u : Up w w') : Own k E w' base v n f := h.below u (Nat.le_refl _)

end Go.Proofs.YteipogfolnlblaaDoor
