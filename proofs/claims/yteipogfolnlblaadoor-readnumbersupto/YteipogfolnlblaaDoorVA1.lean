/-
  What is proved here: what math/bits.Add32, Sub32, Mul32, Div32 answer, as plain sums, differences, products and quotients. what the small functions without memory of their own answer: nat.trim, tandemlaw00.SameLimbs, math/bits.Add32 and others, for every argument that can be read. plain facts on adding and taking digit by digit, with a carry; no walk. nat.addInto adds one row of limbs to another in place, and nat.takeFrom takes one from another; nothing else in memory turns. tandemlaw00.CopyLimbs, tandemlaw01.c and nat.clone hand back the limbs that they were handed, in new memory; tandemlaw01.same tells that two lists are the same. nat.Add answers the canonical limbs of the sum of all that it is handed, in new memory, for fewer than 2^32 lists that fit a machine. plain facts on multiplying a number's digits by a small factor, and on decimal digits; no walk. nat.Parse answers the number that a text of decimal digits says, and true; nothing and false of any other text. nat.divideByLimb divides a row of limbs by one limb in place, and answers the rest. nat.groupsOf answers a number's digits to the base 10^9, the highest not 0; nat.appendGroup appends nine decimal digits. nat.appendGroup appends the nine decimal digits of a group to a row of bytes that is its own. strconv.AppendUint appends the one decimal digit of 4. nat.Text answers the shortest decimal digits of a number, as far as strconv.AppendUint answers those of the highest group. plain facts on multiplying digit by digit; no walk. nat.addTimes adds a multiple of one row of limbs to another in place, and nat.times answers the canonical limbs of the product of two numbers, in new memory. nat.product and nat.Mul answer the limbs of the product of all that they are handed. nat.Add and nat.Mul of two numbers, out of the contracts for as many as one likes. small facts that let one call follow another: what could be read ahead of a call can be read behind it. a region that draws its order of evaluation, by one relation: what each operation gives, said of its value and of the world, as long as no other operation of the region turns it. a region that draws its order of evaluation, whose operations lay new variables, store into these or into older ones once, and else only lay memory: by what each operation gives. num.Cmp tells which of two numbers is less. what the regions of package num share: rows in new memory that lie within the blocks that an operation laid; num.divide by any number. a number's decimal text is one. tandemlaw02.awake answers true: the document's own examples of a division downwards and of a sum. a number in new memory, said by its value. num.product: the product of two and more numbers with their signs. num.Mul of two numbers, num.Neg and num.Sub. the calls of package num and of its statements, said by the values of the numbers alone. data as trees, how they lie in memory, and how they are written; no walk. package show's small texts: oneByte, twoDigits, truth, letterName. package show's text, list. package show's list. package show's goOn, at an item. package show's goOn, at what stands behind a dot; goOn, whatever is left. package show's told, Write, Display: a datum as the text that it is. tandemlaw00.CopyAll: a row of data in new memory, given tandemlaw00.Copy of one. tandemlaw06.ShowLists.
-/
import Derived.Test.YteipogfolnlblaaDoorWXN
import Derived.Test.YteipogfolnlblaaDoorVSD
import Derived.Test.YteipogfolnlblaaDoorProg
import Derived.Test.YteipogfolnlblaaDoorBase
import Derived.WalkLawsBesides
import Derived.Laws.BitsAllLaws
import Derived.Laws.CopyOwn
import Derived.Laws.AppendOwnNone
import Derived.Lib.Strings
import Derived.Lib.AppendStr
import Derived.Laws.IdiomStrings
import Derived.Deep.RegionWith
import Derived.Deep.QuietTactic
import Derived.BigQuiet
import Derived.Orders
import Derived.Laws.World
import Derived.Handy
import Derived.Maps.AppendAt
import Derived.Shelf.Strconv.AppendInt10
import Derived.Ground.NamesProg
import Derived.Test.YteipogfolnlblaaDoorRows
import Derived.Laws.MathBits
import Derived.Deep.RegionHeld3
import Derived.Deep.AppendLies
import Derived.Lib.UnsafeStr
import Derived.Laws.BytesString
import Derived.Deep.LoopGhost
namespace Go.Proofs.YteipogfolnlblaaDoor
open Go Go.RowKit

theorem AddRel.full {f h f' : Nat → Nat} {off n c : Nat} (r : AddRel f h off n n f' c) :
    num 4294967296 (fun i => f' (off + i)) n + c * 4294967296 ^ n = num 4294967296 (fun i => f (off + i)) n + num 4294967296 h n := r.2.2.2

theorem cut_in {h : Nat → Nat} {m i : Nat} (hi : i < m) : cut h m i = h i := by simp [cut, hi]

theorem cut_out {h : Nat → Nat} {m i : Nat} (hi : m ≤ i) : cut h m i = 0 := by simp [cut]; omega

theorem num_cut {B : Nat} {h : Nat → Nat} {m n : Nat} (hn : m ≤ n) : num B (cut h m) n = num B h m := by
  rw [num_tail hn (fun i h1 _ => cut_out h1), num_congr (g := h) (fun i hi => cut_in hi)]

theorem infoI : (Tryd.prog.info? 3).map (fun i => (i.zero, i.size, i.bytes)) = some (some (.int .i64 0), 1, 8) := by kernel_rfl

theorem Below.of_grown {w w' : World} (h : w.grownBy w' none) : Below w.heap.size w w' :=
  (Below.refl _ _).grown h (Nat.le_refl _) (fun k hk => by cases hk)

/-- The sum of the first k lists' numbers. -/
def total (ns : Nat → Nat) (fs : Nat → Nat → Nat) : Nat → Nat
  | 0 => 0
  | k + 1 => total ns fs k + num 4294967296 (fs k) (ns k)

theorem num_lt_pow {f : Nat → Nat} {n L : Nat} (h : ∀ i, i < n → f i < 4294967296) (hL : n ≤ L) : num 4294967296 f n < 4294967296 ^ L :=
  Nat.lt_of_lt_of_le (num_lt h) (Nat.pow_le_pow_right (by decide) hL)

/-- So many limbs make at most twice as many groups. -/
theorem GroupRel.few {V k X n : Nat} {G : Nat → Nat} (h : GroupRel V k G X) (hX : 0 < X) (hV : V < 4294967296 ^ n) : k < 2 * n := by
  have h2 := h.2.1
  have h3 : 1 * 1000000000 ^ k ≤ X * 1000000000 ^ k := Nat.mul_le_mul_right _ hX
  have h4 : 4294967296 ^ n ≤ 1000000000 ^ (2 * n) := by
    rw [Nat.pow_mul]
    exact Nat.pow_le_pow_left (by decide) n
  apply Nat.lt_of_not_le
  intro hle
  have h5 : 1000000000 ^ (2 * n) ≤ 1000000000 ^ k := Nat.pow_le_pow_right (by decide) hle
  omega

theorem infoB : (Tryd.prog.info? 5).map (fun i => (i.zero, i.size, i.bytes)) = some (some (.int .u8 0), 1, 1) := by kernel_rfl

/-- The text of L digits. -/
def digText (d : Nat → Nat) (L : Nat) : List UInt8 := (List.range L).map fun i => UInt8.ofNat (48 + d i)

theorem digText_length (d : Nat → Nat) (L : Nat) : (digText d L).length = L := by simp [digText]

theorem digText_get (d : Nat → Nat) (L i : Nat) (h : i < (digText d L).length) (hd : d i ≤ 9) : (digText d L)[i].toNat = 48 + d i := by
  simp only [digText, List.getElem_map, List.getElem_range]
  rw [UInt8.toNat_ofNat']
  omega

theorem says_mk (d : Nat → Nat) (L x : Nat) (hd : ∀ i, i < L → d i ≤ 9) (hL : 1 ≤ L) (hx : dec d L = x) (h0 : L = 1 ∨ d 0 ≠ 0) : Says ⟨(digText d L).toArray⟩ x := by
  have hs : (⟨(digText d L).toArray⟩ : ByteArray).size = L := by simp [ByteArray.size, digText_length]
  refine ⟨d, by omega, fun i h => ?_, by rw [hs]; exact hx, by rw [hs]; exact h0⟩
  have hi : i < L := by omega
  refine ⟨?_, hd i hi⟩
  rw [← digText_get d L i (by rw [digText_length]; exact hi) (hd i hi)]
  rfl

/-- 'string(b)', b a row of digits of one's own. -/
theorem conv_digits (w : World) (g cap L N : Nat) (d : Nat → Nat) (hd : ∀ i, i < L → d i ≤ 9) (hr : RowAt .u8 5 w g N L (fun i => 48 + d i)) :
    (convert 68 9 (.slice (some ⟨g, 0, none⟩) L cap)).run Tryd.prog w = .ok (.string ⟨(digText d L).toArray⟩) w := by
  have := run_convert_bytes_back (P := Tryd.prog) w 68 9 5 ⟨g, 0, none⟩ cap (digText d L) Tryd.underlying68 Tryd.underlying5 Tryd.underlying9 (fun j hj => by
    have hjL : j < L := by rw [digText_length] at hj; exact hj
    rw [Addr.add_lit, Nat.zero_add, hr.cell hjL, digText_get d L j hj (hd j hjL)])
  rw [digText_length] at this
  exact this

section
variable {P : Program} {l : List Oper} {deps : List (List Nat)} {a0 : Act} {G : World → Prop} {N : Nat → World → Prop} {R : Nat → (Nat → Got) → World → Prop} {Q : Exit → Act → World → Prop}
end
theorem turn_setCell (w : World) (g i : Nat) (v : Value) : Turn g w (w.setCell ⟨g, i, none⟩ v) :=
  ⟨rfl, rfl, rfl, by simp [World.setCell], fun b hb => heap_setCell_other _ _ _ _ (show b ≠ g from hb)⟩

/-- Two cells of a variable are set. -/
theorem sto_two {w1 : World} {g : Nat} {c0 c1 : Value} {E : TypeId} (h : w1.heap[g]? = some (.cells #[c0, c1] E (0, 0))) (v0 v1 : Value) :
    Turn g w1 ((w1.setCell ⟨g, 0, none⟩ v0).setCell ⟨g, 1, none⟩ v1) ∧ ((w1.setCell ⟨g, 0, none⟩ v0).setCell ⟨g, 1, none⟩ v1).heap[g]? = some (.cells #[v0, v1] E (0, 0)) := by
  refine ⟨(turn_setCell _ _ _ _).trans (turn_setCell _ _ _ _), ?_⟩
  have h1 := heap_setCell_same w1 g 0 _ E v0 h
  exact heap_setCell_same (w1.setCell ⟨g, 0, none⟩ v0) g 1 _ E v1 h1

/-! Short names for what lays a frame out. -/

theorem dec_inj {d e : Nat → Nat} {L : Nat} (hd : ∀ i, i < L → d i ≤ 9) (he : ∀ i, i < L → e i ≤ 9) (h : dec d L = dec e L) : ∀ i, i < L → d i = e i := by
  induction L with
  | zero => intro i hi; omega
  | succ k ih =>
    have h1 := hd k (by omega)
    have h2 := he k (by omega)
    rw [dec, dec] at h
    intro i hi
    by_cases e' : i = k
    · rw [e']; omega
    · exact ih (fun i hi => hd i (by omega)) (fun i hi => he i (by omega)) (by omega) i (by omega)

theorem dec_ge {d : Nat → Nat} {L : Nat} (hL : 1 ≤ L) (h0 : d 0 ≠ 0) : 10 ^ (L - 1) ≤ dec d L := by
  obtain ⟨k, rfl⟩ : ∃ k, L = k + 1 := ⟨L - 1, by omega⟩
  rw [Nat.add_sub_cancel]
  clear hL
  induction k with
  | zero => simp [dec]; omega
  | succ k ih => rw [dec, Nat.pow_succ]; omega

theorem says_len {d e : Nat → Nat} {L M : Nat} (hM : 1 ≤ L) (hd : ∀ i, i < L → d i ≤ 9) (h : dec d L = dec e M) (h0 : M = 1 ∨ e 0 ≠ 0) : ¬ L < M := by
  intro hlt
  have h1 := dec_lt hd
  have h2 := dec_ge (d := e) (L := M) (by omega) (by rcases h0 with h | h; omega; exact h)
  have h3 : 10 ^ L ≤ 10 ^ (M - 1) := Nat.pow_le_pow_right (by decide) (by omega)
  omega

theorem says_uniq {s t : ByteArray} {x : Nat} (hs : Says s x) (ht : Says t x) : s = t := by
  obtain ⟨d, a1, a2, a3, a4⟩ := hs
  obtain ⟨e, b1, b2, b3, b4⟩ := ht
  have l1 := says_len a1 (fun i hi => (a2 i hi).2) (a3.trans b3.symm) b4
  have l2 := says_len b1 (fun i hi => (b2 i hi).2) (b3.trans a3.symm) a4
  have hl : s.size = t.size := by omega
  have hi := dec_inj (fun i hi => (a2 i hi).2) (fun i hi => (b2 i (by omega)).2) (by rw [a3, hl, b3])
  apply ByteArray.ext
  apply Array.ext
  · exact hl
  · intro i h1 h2
    apply UInt8.toNat_inj.1
    exact ((a2 i h1).1.trans (by rw [hi i h1])).trans (b2 i h2).1.symm

theorem saysZ_uniq {s t : ByteArray} {z : Int} (hs : SaysZ s z) (ht : SaysZ t z) : s = t := by
  rcases hs with ⟨h1, h2⟩ | ⟨h1, s', rfl, h2⟩ <;> rcases ht with ⟨k1, k2⟩ | ⟨k1, t', rfl, k2⟩
  · exact says_uniq h2 k2
  · omega
  · omega
  · rw [says_uniq h2 k2]

theorem says_size {t : ByteArray} {x n : Nat} (h : Says t x) (hx : x < 4294967296 ^ n) : t.size ≤ 10 * n + 1 := by
  obtain ⟨d, a1, a2, a3, a4⟩ := h
  rcases a4 with h1 | h0
  · omega
  apply Nat.le_of_not_lt
  intro hlt
  have h1 := dec_ge a1 h0
  have h2 : 10 ^ (10 * n) ≤ 10 ^ (t.size - 1) := Nat.pow_le_pow_right (by decide) (by omega)
  have h3 : (4294967296 : Nat) ^ n ≤ (10 ^ 10) ^ n := Nat.pow_le_pow_left (by decide) n
  rw [← Nat.pow_mul] at h3
  omega

theorem size_arr (M : List UInt8) : (⟨M.toArray⟩ : ByteArray).size = M.length := by simp [ByteArray.size]
theorem cat_bytes (a b : List UInt8) : (⟨a.toArray⟩ : ByteArray) ++ ⟨b.toArray⟩ = ⟨(a ++ b).toArray⟩ := by
  apply ByteArray.ext
  simp [ByteArray.data_append]
theorem dgs_text : ∀ (f n : Nat), n < f → ∃ d L, dgs f n = digText d L ∧ 1 ≤ L ∧ (∀ i, i < L → d i ≤ 9) ∧ dec d L = n ∧ (L = 1 ∨ d 0 ≠ 0) ∧ (L = 1 → d 0 = n)
  | 0, n, h => by omega
  | f + 1, n, h => by
    unfold dgs
    by_cases h1 : n < 10
    · rw [if_pos h1]
      exact ⟨fun _ => n, 1, rfl, Nat.le_refl _, fun _ _ => (by show n ≤ 9; omega), by simp [dec], .inl rfl, fun _ => rfl⟩
    · rw [if_neg h1]
      obtain ⟨d, L, e, hL, hd, hx, h0, hone⟩ := dgs_text f (n / 10) (by omega)
      refine ⟨fun i => if i < L then d i else n % 10, L + 1, ?_, by omega, fun i hi => ?_, ?_, .inr ?_, fun e => by omega⟩
      · rw [e]
        unfold digText
        rw [List.range_succ, List.map_append]
        congr 1
        · apply List.map_congr_left
          intro i hi
          simp only [if_pos (List.mem_range.1 hi)]
        · simp
      · by_cases hi2 : i < L
        · simp only [if_pos hi2]; exact hd i hi2
        · simp only [if_neg hi2]; omega
      · show dec (fun i => if i < L then d i else n % 10) L * 10 + (if L < L then d L else n % 10) = n
        rw [dec_congr (d := fun i => if i < L then d i else n % 10) (e := d) (k := L) (fun i hi => by simp only [if_pos hi]), hx, if_neg (Nat.lt_irrefl _)]
        omega
      · simp only [if_pos (show 0 < L by omega)]
        rcases h0 with h0 | h0
        · rw [hone h0]; omega
        · exact h0
theorem ztx_says (X : Int) : SaysZ ⟨(ztx X).toArray⟩ X := by
  obtain ⟨d, L, e, hL, hd, hx, h0, -⟩ := dgs_text (X.natAbs + 1) X.natAbs (by omega)
  have h1 := says_mk d L X.natAbs hd hL hx h0
  unfold ztx
  by_cases hX : X < 0
  · rw [if_pos hX, e]
    exact .inr ⟨hX, ⟨(digText d L).toArray⟩, by apply ByteArray.ext; simp [ByteArray.data_append], h1⟩
  · rw [if_neg hX, e]
    exact .inl ⟨by omega, h1⟩
theorem ztx_eq {s : ByteArray} {X : Int} (h : SaysZ s X) : ztx X = s.data.toList := by
  rw [← saysZ_uniq (ztx_says X) h]

theorem tbW_le (b : UInt8) : (tbW b).length ≤ 5 := by
  unfold tbW two
  split <;> (try simp)
  split <;> (try simp)
  split <;> (try simp)
  split <;> simp

theorem tsW_le (l : List UInt8) : (tsW l).length ≤ 5 * l.length := by
  induction l with
  | nil => simp [tsW]
  | cons b l ih =>
    have := tbW_le b
    simp only [tsW, List.flatMap_cons, List.length_append, List.length_cons] at *
    omega

theorem chW_le (n : Int) : (chW n).length ≤ 7 := by
  unfold chW two
  repeat' split
  all_goals simp

theorem ztx_le (b : Bool) (f : Nat → Nat) (n : Nat) (hf : ∀ i, i < n → f i < 4294967296) : (ztx (sgn b (num 4294967296 f n))).length ≤ 10 * n + 2 := by
  have he : ∃ s, SaysZ s (sgn b (num 4294967296 f n)) := ⟨_, ztx_says _⟩
  obtain ⟨s, hs⟩ := he
  rw [ztx_eq hs]
  have hx : (sgn b (num 4294967296 f n)).natAbs < 4294967296 ^ n := by
    have := num_lt hf
    cases b <;> simpa [sgn] using this
  rcases hs with ⟨_, h⟩ | ⟨_, t, rfl, h⟩
  · have := says_size h hx
    rw [bytes_len]
    omega
  · have := says_size h hx
    rw [bytes_len, ByteArray.size_append]
    have e1 : (⟨#[45]⟩ : ByteArray).size = 1 := rfl
    omega

/-- A row of bytes, as a text. -/
theorem conv_at (W : World) (g : Nat) (l : List UInt8) (cap : Nat) {f : Nat × Nat} (h : W.heap[g]? = some (.cells (Lib.byteCells l).toArray 5 f)) :
    (convert 68 9 (.slice (some ⟨g, 0, none⟩) l.length cap)).run Tryd.prog W = .ok (.string ⟨l.toArray⟩) W := by
  exact run_convert_bytes_back (P := Tryd.prog) W 68 9 5 ⟨g, 0, none⟩ cap l Tryd.underlying68 Tryd.underlying5 Tryd.underlying9 (fun j hj => by
    rw [Addr.add_lit, Nat.zero_add, cell_of_row _ _ j _ _ _ h]
    simp [Lib.byteCells, hj])

theorem conv_new (w : World) (l : List UInt8) (cap : Nat) :
    (convert 68 9 (.slice (some ⟨w.heap.size, 0, none⟩) l.length cap)).run Tryd.prog (w.alloc (.cells (Lib.byteCells l).toArray 5)) = .ok (.string ⟨l.toArray⟩) (w.alloc (.cells (Lib.byteCells l).toArray 5)) :=
  conv_at _ _ l cap (heap_alloc_new w _)

theorem tsW_take (l : List UInt8) {k : Nat} (hk : k < l.length) : tsW (l.take (k + 1)) = tsW (l.take k) ++ tbW l[k] := by
  unfold tsW
  rw [List.take_succ_eq_append_getElem hk, List.flatMap_append]
  simp

theorem bk_pos {h : Nat} (d : Tr (h + 1)) : 2 ≤ bk (h + 1) d := by
  obtain ⟨k, n, b, L, t, I, R⟩ := d
  simp only [bk]
  omega

/-- Seven cells of a datum that lay there. -/
theorem dat_cells {w0 W : World} {h : Nat} {d : Tr h} {b off : Nat} {cs : List Value} (hl : cs.length = 7) (hc : ∀ j, j < 7 → w0.cell? ⟨b, off + j, none⟩ = cs[j]?) (hd : DatC w0 h d cs) (u : Up w0 W) :
    ∃ k n bb um t ui ur, cs = [.int .i64 k, .int .i64 n, .bool bb, um, .string t, ui, ur] ∧ (∃ ao l cap, um = .slice ao l cap) ∧ (∃ ao l cap, ui = .slice ao l cap) ∧ (∃ ao l cap, ur = .slice ao l cap) ∧
      W.cell? ⟨b, off, none⟩ = some (.int .i64 k) ∧ W.cell? ⟨b, off + 1, none⟩ = some (.int .i64 n) ∧ W.cell? ⟨b, off + 2, none⟩ = some (.bool bb) ∧ W.cell? ⟨b, off + 3, none⟩ = some um ∧ W.cell? ⟨b, off + 4, none⟩ = some (.string t) ∧ W.cell? ⟨b, off + 5, none⟩ = some ui ∧ W.cell? ⟨b, off + 6, none⟩ = some ur := by
  match h, d, hd with
  | 0, _, hd => exact hd.elim
  | h + 1, (k, n, bb, L, t, I, R), hd =>
    obtain ⟨um, ui, ur, rfl, -, hM, -, hI, hR⟩ := hd
    obtain ⟨a1, c1, rfl, -⟩ := hM
    obtain ⟨a2, c2, rfl⟩ := hI.shape
    obtain ⟨a3, c3, rfl⟩ := hR.shape
    have hb : b < w0.heap.size := World.block_lt_of_cell? w0 _ (hc 0 (by decide))
    have key : ∀ j, j < 7 → W.cell? ⟨b, off + j, none⟩ = _ := fun j hj => (u.cell (p := ⟨b, off + j, none⟩) hb).trans (hc j hj)
    exact ⟨_, _, _, _, _, _, _, rfl, ⟨_, _, _, rfl⟩, ⟨_, _, _, rfl⟩, ⟨_, _, _, rfl⟩, key 0 (by decide), key 1 (by decide), key 2 (by decide), key 3 (by decide), key 4 (by decide), key 5 (by decide), key 6 (by decide)⟩

theorem sum_ge {α : Type} {m : α → Nat} {l : List α} (h : ∀ a ∈ l, 1 ≤ m a) : l.length ≤ (l.map m).sum := by
  induction l with
  | nil => simp
  | cons a l ih =>
    have h1 := h a (by simp)
    have h2 := ih (fun b hb => h b (by simp [hb]))
    simp only [List.map_cons, List.sum_cons, List.length_cons]
    omega

theorem bk_one : (h : Nat) → (d : Tr h) → 1 ≤ bk h d
  | 0, d => (show Empty from d).elim
  | h + 1, d => by have := bk_pos d; omega

theorem wr_le : (h : Nat) → (sh : Bool) → (d : Tr h) → (∀ w cs, DatC w h d cs → (wr h sh d).length + 1 ≤ 60 * bk h d)
  | 0, _, d => (show Empty from d).elim
  | h + 1, sh, (k, n, b, L, t, I, R) => by
    intro w cs hd
    obtain ⟨um, ui, ur, -, -, -, hL, hI, hR⟩ := hd
    have key : ∀ (l : List (Tr h)) (v : Value), RowD w (DatC w h) v l → ∀ (s : Bool) (a : Tr h), a ∈ l → (wr h s a).length + 1 ≤ 60 * bk h a := fun l v hl s a ha => by
      obtain ⟨i, hi, rfl⟩ := List.getElem_of_mem ha
      obtain ⟨ao, cap, rfl⟩ := hl.shape
      obtain ⟨-, b, off, -, cs, -, -, hc⟩ := hl.get hi
      exact wr_le h s _ w cs hc
    have keyI : ∀ (s : Bool) (l : List (Tr h)) (g : List UInt8), (∀ a ∈ l, (wr h s a).length + 1 ≤ 60 * bk h a) → (its (wr h s) g l).length ≤ g.length + 60 * (l.map (bk h)).sum := fun s l => by
      induction l with
      | nil => intro g _; simp [its]
      | cons a l ih =>
        intro g hg
        have h1 := ih [32] (fun x hx => hg x (by simp [hx]))
        have h2 := hg a (by simp)
        simp only [its, List.length_append, List.map_cons, List.sum_cons, List.length_singleton] at *
        omega
    have keyD : ∀ (s : Bool) (l : List (Tr h)), (∀ a ∈ l, (wr h s a).length + 1 ≤ 60 * bk h a) → (dotW (wr h s) l).length ≤ 3 + 60 * (l.map (bk h)).sum := fun s l hg => by
      cases l with
      | nil => simp [dotW]
      | cons a l =>
        have h2 := hg a (by simp)
        simp only [dotW, List.length_append, List.map_cons, List.sum_cons, List.length_cons, List.length_nil]
        omega
    have i1 := keyI sh I [] (fun a ha => key I ui hI sh a ha)
    have i2 := keyI false I [32] (fun a ha => key I ui hI false a ha)
    have r1 := keyD sh R (fun a ha => key R ur hR sh a ha)
    have hz := ztx_le b (fun i => L.getD i 0) L.length hL
    have hc := chW_le n
    have ht := tsW_le t.data.toList
    have htl := bytes_len t
    have hrest : ∀ r R', R = r :: R' → (wr h sh r).length + 1 ≤ 60 * bk h r := fun r R' e => key R ur hR sh r (by simp [e])
    simp only [wr, bk]
    by_cases k1 : k = 1
    · rw [if_pos k1]; omega
    rw [if_neg k1]
    by_cases k2 : k = 2
    · rw [if_pos k2]; split <;> simp <;> omega
    rw [if_neg k2]
    by_cases k3 : k = 3
    · rw [if_pos k3]; split <;> simp <;> omega
    rw [if_neg k3]
    by_cases k4 : k = 4
    · rw [if_pos k4]; split <;> simp <;> omega
    rw [if_neg k4]
    by_cases k5 : k = 5
    · rw [if_pos k5]; omega
    rw [if_neg k5]
    by_cases k6 : k = 6
    · rw [if_pos k6]
      split
      · have := hrest _ _ rfl
        simp only [List.map_cons, List.sum_cons]
        omega
      · simp only [List.length_append, List.length_singleton, List.length_nil] at *
        omega
    rw [if_neg k6]
    by_cases k7 : k = 7
    · rw [if_pos k7]
      simp only [List.length_append, List.length_cons, List.length_nil] at *
      omega
    rw [if_neg k7]
    by_cases k9 : k = 9
    · rw [if_pos k9]; simp; omega
    rw [if_neg k9]
    by_cases k10 : k = 10
    · rw [if_pos k10]
      simp only [List.length_append, List.length_cons, List.length_nil] at *
      omega
    rw [if_neg k10]
    simp
    omega

def seven (xs : List Value) (j : Nat) : List Value := (xs.drop (j * 7)).take 7

/-- k data are copied. -/
structure CA (w : World) (h : Nat) (I : List (Tr h)) (k : Nat) (v : Value) (xs : List Value) (wr : World) : Prop where
  up : Up w wr
  own : wr.ownsRow w.heap.size 31 7 v k xs
  it : ∀ j (hj : j < I.length), j < k → DatQ (fun b => w.heap.size ≤ b ∧ v.ownBlock ≠ some b) wr h I[j] (seven xs j)

theorem CA.fin {w : World} {h : Nat} {I : List (Tr h)} {v : Value} {xs : List Value} {wr : World} (hA : CA w h I I.length v xs wr) : RowD wr (DatQ (fun k => w.heap.size ≤ k) wr h) v I ∧ VQ (fun k => w.heap.size ≤ k) v I.length ∧ Up w wr := by
  have hlen := hA.own.1
  rcases hA.own.2 with ⟨rfl, h0⟩ | ⟨g, cap, cur, rfl, h1, h2, h3, h4, h5, h6⟩
  · exact ⟨⟨none, 0, by rw [h0], by omega, by decide, .inl h0⟩, .inl h0, hA.up⟩
  · refine ⟨⟨some ⟨g, 0, none⟩, cap, rfl, h3, by unfold maxLen at h4; omega, .inr ⟨g, 0, rfl, fun i hi => ⟨seven xs i, ?_, fun j hj => ?_, ?_⟩⟩⟩, .inr ⟨_, _, _, rfl, h1⟩, hA.up⟩
    · unfold seven
      rw [List.length_take, List.length_drop]
      omega
    · rw [cell_of_row wr g _ cur _ _ h2, ← Array.getElem?_toList, Nat.zero_add]
      unfold seven
      rw [List.getElem?_take, if_pos hj, List.getElem?_drop]
      have := congrArg (fun l : List Value => l[i * 7 + j]?) h6
      simp only [List.getElem?_take] at this
      rw [if_pos (by omega)] at this
      exact this
    · exact DatQ.keep (w := wr) (fun _ _ _ => rfl) (fun _ _ hq => hq.1) (hA.it i hi hi)

/-- Seven cells of one of a row that lay there. -/
theorem row_cells {w W : World} {h : Nat} {I : List (Tr h)} {ao : Option Addr} {n cap : Nat} (hr : RowD w (DatC w h) (.slice ao n cap) I) (u : Up w W) {i : Nat} (hi : i < I.length) :
    ∃ b off, ao = some ⟨b, off, none⟩ ∧ ∃ k m bb um t ui ur, DatC w h I[i] [.int .i64 k, .int .i64 m, .bool bb, um, .string t, ui, ur] ∧ (∃ ao l cap, um = .slice ao l cap) ∧ (∃ ao l cap, ui = .slice ao l cap) ∧ (∃ ao l cap, ur = .slice ao l cap) ∧
      W.cell? ⟨b, off + i * 7, none⟩ = some (.int .i64 k) ∧ W.cell? ⟨b, off + i * 7 + 1, none⟩ = some (.int .i64 m) ∧ W.cell? ⟨b, off + i * 7 + 2, none⟩ = some (.bool bb) ∧ W.cell? ⟨b, off + i * 7 + 3, none⟩ = some um ∧ W.cell? ⟨b, off + i * 7 + 4, none⟩ = some (.string t) ∧ W.cell? ⟨b, off + i * 7 + 5, none⟩ = some ui ∧ W.cell? ⟨b, off + i * 7 + 6, none⟩ = some ur := by
  obtain ⟨-, b, off, rfl, cs, k1, k2, k3⟩ := hr.get hi
  obtain ⟨k, m, bb, um, t, ui, ur, rfl, s1, s2, s3, e⟩ := dat_cells (off := off + i * 7) k1 k2 k3 u
  exact ⟨b, off, rfl, k, m, bb, um, t, ui, ur, k3, s1, s2, s3, e⟩

theorem DatC.ones {w : World} : {h : Nat} → {d : Tr h} → {cs : List Value} → DatC w h d cs → ∀ u ∈ cs, u.oneCell' = true
  | 0, _, _, hd => hd.elim
  | h + 1, (k, n, b, L, t, I, R), cs, hd => by
    obtain ⟨um, ui, ur, rfl, -, hM, -, hI, hR⟩ := hd
    obtain ⟨a1, c1, rfl, -⟩ := hM
    obtain ⟨a2, c2, rfl⟩ := hI.shape
    obtain ⟨a3, c3, rfl⟩ := hR.shape
    intro u hu
    simp at hu
    rcases hu with rfl | rfl | rfl | rfl | rfl | rfl | rfl <;> rfl

theorem its_snoc {α : Type} (f : α → List UInt8) (d : α) : ∀ (l : List α) (g : List UInt8), its f g (l ++ [d]) = its f g l ++ (if l = [] then g else [32]) ++ f d
  | [], g => by simp [its]
  | a :: l, g => by
    rw [List.cons_append, its, its_snoc f d l [32], its]
    by_cases h : l = [] <;> simp [h, its]

theorem its_take {α : Type} (f : α → List UInt8) (l : List α) {k : Nat} (hk : k < l.length) : its f [] (l.take (k + 1)) = its f [] (l.take k) ++ (if k = 0 then [] else [32]) ++ f l[k] := by
  rw [List.take_succ_eq_append_getElem hk, its_snoc]
  have : l.take k = [] ↔ k = 0 := by
    rw [List.take_eq_nil_iff]
    constructor
    · rintro (h | h)
      · exact h
      · rw [h] at hk; simp at hk
    · exact .inl
  simp [this]

/-- The data of a row, as far as their texts go. -/
theorem its_len {w : World} {h : Nat} {I : List (Tr h)} {v : Value} (hr : RowD w (DatC w h) v I) (sh : Bool) (k : Nat) : (its (wr h sh) [] (I.take k)).length ≤ 60 * (I.map (bk h)).sum := by
  have key : ∀ a ∈ I, (wr h sh a).length + 1 ≤ 60 * bk h a := fun a ha => by
    obtain ⟨i, hi, rfl⟩ := List.getElem_of_mem ha
    obtain ⟨ao, cap, rfl⟩ := hr.shape
    obtain ⟨-, b, off, -, cs, -, -, hc⟩ := hr.get hi
    exact wr_le h sh _ w cs hc
  have keyI : ∀ (l : List (Tr h)) (g : List UInt8), (∀ a ∈ l, (wr h sh a).length + 1 ≤ 60 * bk h a) → (its (wr h sh) g l).length ≤ g.length + 60 * (l.map (bk h)).sum := fun l => by
    induction l with
    | nil => intro g _; simp [its]
    | cons a l ih =>
      intro g hg
      have h1 := ih [32] (fun x hx => hg x (by simp [hx]))
      have h2 := hg a (by simp)
      simp only [its, List.length_append, List.map_cons, List.sum_cons, List.length_singleton] at *
      omega
  have h1 := keyI (I.take k) [] (fun a ha => key a (List.mem_of_mem_take ha))
  have h2 : (I.map (bk h)).sum = ((I.take k).map (bk h)).sum + ((I.drop k).map (bk h)).sum := by
    rw [← List.sum_append, ← List.map_append, List.take_append_drop]
  rw [List.length_nil, Nat.zero_add] at h1
  omega

end Go.Proofs.YteipogfolnlblaaDoor
