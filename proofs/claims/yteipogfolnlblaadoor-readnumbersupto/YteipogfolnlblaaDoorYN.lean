/-
  What is proved here: what math/bits.Add32, Sub32, Mul32, Div32 answer, as plain sums, differences, products and quotients. what the small functions without memory of their own answer: nat.trim, tandemlaw00.SameLimbs, math/bits.Add32 and others, for every argument that can be read. plain facts on adding and taking digit by digit, with a carry; no walk. nat.addInto adds one row of limbs to another in place, and nat.takeFrom takes one from another; nothing else in memory turns. tandemlaw00.CopyLimbs, tandemlaw01.c and nat.clone hand back the limbs that they were handed, in new memory; tandemlaw01.same tells that two lists are the same. nat.Add answers the canonical limbs of the sum of all that it is handed, in new memory, for fewer than 2^32 lists that fit a machine. plain facts on multiplying a number's digits by a small factor, and on decimal digits; no walk. nat.Parse answers the number that a text of decimal digits says, and true; nothing and false of any other text. nat.divideByLimb divides a row of limbs by one limb in place, and answers the rest. nat.groupsOf answers a number's digits to the base 10^9, the highest not 0; nat.appendGroup appends nine decimal digits. nat.appendGroup appends the nine decimal digits of a group to a row of bytes that is its own. strconv.AppendUint appends the one decimal digit of 4. nat.Text answers the shortest decimal digits of a number, as far as strconv.AppendUint answers those of the highest group. plain facts on multiplying digit by digit; no walk. nat.addTimes adds a multiple of one row of limbs to another in place, and nat.times answers the canonical limbs of the product of two numbers, in new memory. nat.product and nat.Mul answer the limbs of the product of all that they are handed. nat.Add and nat.Mul of two numbers, out of the contracts for as many as one likes. small facts that let one call follow another: what could be read ahead of a call can be read behind it. num.numberOf cuts the noughts at the end off and keeps the sign of what is not 0; num.work and num.answer turn numbers into what is worked at and back. what the statements of num share: tandemlaw02.c copies a number, tandemlaw02.same tells that two numbers are the same. num.difference, num.total and num.sum: the sum of any numbers with their signs, canonical, in new memory. num.total and num.sum: the sum of any numbers with their signs, canonical, in new memory. num.workAll turns a row of numbers into what is worked at; num.Add answers the sum of all that it is handed. strconv.AppendUint appends the decimal digits of a number, where the library's table of powers of ten reads as it is laid. nat.Text answers the shortest decimal digits of a number, where the library's table of powers of ten reads as it is laid; digits behind noughts; tandemlaw00.Place; strings of digits. the row's condition on the tables gives what strconv.AppendUint asks; tandemlaw00.Place; a nought ahead of digits. num.Of answers the number that it is handed; num.Text says it with its sign. num.Text says a number with its sign. plain facts on long division digit by digit, and on shifts; no walk. nat.takeTimes takes a multiple of one row of limbs from another in place, and tells whether it had to borrow. nat.guessLimb answers the quotient of a part by the divisor, or 1 more. plain facts on shifting a number's limbs; no walk. nat.shiftLeft and nat.shiftRight shift a number's limbs into new memory. plain facts on long division, one quotient limb at a time; no walk. nat.divideLong answers quotient and rest of two numbers, the divisor of two limbs or more. nat.divideLong answers quotient and rest of two numbers, the divisor of two limbs or more. nat.Div answers the canonical limbs of quotient and rest and true; nothing, nothing and false, where the divisor is 0.
-/
import Derived.Test.YteipogfolnlblaaDoorVA1
import Derived.Test.YteipogfolnlblaaDoorProg
import Derived.Test.YteipogfolnlblaaDoorBase
import Derived.WalkLawsBesides
import Derived.Laws.BitsAllLaws
import Derived.Laws.CopyOwn
import Derived.Laws.AppendOwnNone
import Derived.Lib.Strings
import Derived.Lib.AppendStr
import Derived.Laws.IdiomStrings
import Derived.Deep.RegionWith
import Derived.Deep.QuietTactic
import Derived.BigQuiet
import Derived.Handy
import Derived.Maps.AppendAt
import Derived.Shelf.Strconv.AppendInt10
import Derived.Ground.NamesProg
import Derived.Test.YteipogfolnlblaaDoorRows
import Derived.Laws.MathBits
namespace Go.Proofs.YteipogfolnlblaaDoor
open Go Go.RowKit Go.Shelf

theorem head_or (h l : Nat) (hh : h < 4294967296) (hl : l < 4294967296) : bits BinOp.or IntKind.u64 ((h : Int) * 4294967296) (l : Int) = ((h * 4294967296 + l : Nat) : Int) := by
  have e : (h : Int) * 4294967296 = ((h * 4294967296 : Nat) : Int) := by simp
  rw [e, u64_or_nat _ _ (by omega) (by omega), nat_join 32 _ _ (by omega) (by omega)]

set_option maxHeartbeats 400000 in
theorem div32_any (h l d : Nat) (w : World) (hh : h < d) (hl : l < 4294967296) (hd : d < 4294967296) :
    Calls Tryd.prog 66 #[.int .u32 h, .int .u32 l, .int .u32 d] w fun e w' => e = .returned (.tuple #[.int .u32 ((h * 4294967296 + l) / d : Nat), .int .u32 ((h * 4294967296 + l) % d : Nat)]) ∧ w' = w.drew := by
  have e1 : ((d : Int) != 0) = true := by rw [bne_iff_ne]; omega
  have e2 : (0 : Int) < d := by omega
  have e3 : decide (d ≤ h) = false := by simp; omega
  have e4 := head_or h l (by omega) hl
  have hq : (h * 4294967296 + l) / d < 4294967296 := by
    rw [Nat.div_lt_iff_lt_mul (by omega)]
    have : (h + 1) * 4294967296 ≤ d * 4294967296 := Nat.mul_le_mul_right _ hh
    omega
  have hr : (h * 4294967296 + l) % d < d := Nat.mod_lt _ (by omega)
  have hz : h * 4294967296 + l < 18446744073709551616 := by omega
  go_enter Tryd.func66, Tryd.ntmps66
  go_wp2
  clear e4
  go_region
  all_goals go_wp2
  all_goals go_ret2
  all_goals refine ⟨ret2 ?_ ?_, rfl⟩
  all_goals rw [show ((h : Int) * 4294967296 + (l : Int)) = ((h * 4294967296 + l : Nat) : Int) from by simp]
  · rw [← Int.natCast_ediv]
    generalize (h * 4294967296 + l) / d = z at *
    omega
  · rw [← Int.natCast_emod]
    generalize (h * 4294967296 + l) % d = z at *
    omega

set_option maxHeartbeats 400000 in
theorem trim_any (ao : Option Addr) (n cap : Nat) (f : Nat → Nat) (w : World) (h : Rd .u32 w ao n f) (hnc : n ≤ cap) (hm : cap ≤ 9223372036854775807) :
    Calls Tryd.prog 48 #[.slice ao n cap] w fun e w' => w' = w ∧ ∃ m, m ≤ n ∧ e = .returned (.slice ao m cap) ∧ (∀ i, m ≤ i → i < n → f i = 0) ∧ (m = 0 ∨ f (m - 1) ≠ 0) := by
  rcases h with rfl | ⟨b, off, rfl, hc⟩
  · go_enter Tryd.func48, Tryd.ntmps48
    go_wp2
    refine wp_loop_rounds 1 ?_
    rw [rounds_succ]
    go_wp2
    go_ret
    exact ⟨rfl, 0, Nat.le_refl _, by simp, fun i h1 h2 => by omega, .inl rfl⟩
  · go_enter Tryd.func48, Tryd.ntmps48
    go_wp2
    go_loop [3] (fun t => ∃ k : Nat, k ≤ n ∧ t = .int .i64 k ∧ ∀ i, k ≤ i → i < n → f i = 0) (fun t => (intOf t).toNat)
    case atStart => exact ⟨n, Nat.le_refl _, rfl, fun i h1 h2 => by omega⟩
    case round =>
      obtain ⟨k, hk, rfl, hz⟩ := hrel
      by_cases hk0 : 0 < k
      · have hx := hc (k - 1) (by omega)
        clear hc
        by_cases he : f (k - 1) = 0
        · have HE : Hid (f (k - 1) = 0) := he
          rw [he] at hx
          clear he
          go_wp2
          go_round
          case rel => exact ⟨k - 1, by omega, by go_num, fun i h1 h2 => by
            by_cases e : i = k - 1
            · rw [e]; exact HE.out
            · exact hz i (by omega) h2⟩
          case measure => simp [intOf]; omega
        · have hb : ((f (k - 1) : Int) == 0) = false := by simp; omega
          generalize hy : f (k - 1) = y at *
          have HE := hide hy
          clear hy
          go_wp2
          go_ret
          exact ⟨rfl, k, hk, rfl, hz, .inr (by rw [unhide HE]; exact he)⟩
      · have e0 : k = 0 := by omega
        subst e0
        go_wp2
        go_ret
        exact ⟨rfl, 0, by omega, by simp, hz, .inl rfl⟩

/-- make([]uint32, n): a block of its own, all noughts. -/
theorem wpList_mkU {w : World} {ops : Array Oper} {rest : List Oper} {o : Oper} {a : Act} {Q : Exit → Act → World → Prop}
    (hg : o.guard = none) (l c : Operand) (hop : o.op = Op.makeSlice 22 l c)
    (kl kc : IntKind) (L C : Int) (n : Nat) (hl : a.eval l = .int kl L) (hc : a.eval c = .int kc C) (hL : L = (n : Int)) (hC : C = (n : Int)) (b2 : 4 * n ≤ 281474976710656)
    (hK : ∀ w', RowAt .u32 63 w' w.heap.size n n (fun _ => 0) → Below w.heap.size w w' → wpList Tryd.prog ops Q rest (a.put o.dst (.slice (some ⟨w.heap.size, 0, none⟩) n n)) w') :
    wpList Tryd.prog ops Q (o :: rest) a w := by
  obtain ⟨i, hi, hz0, hz1, hz2⟩ := info_parts infoU
  refine wpList_make_full w hg l c 22 hop w.heap.size 63 i (.int .u32 0) 1 Tryd.underlying22 hi hz0 hz1 kl kc L C n hl hc hL hC (by rw [hz2]; exact b2) (by unfold maxLen; omega) (Nat.le_refl _) ?_
  intro w' hown hgrow
  refine hK w' ?_ (Below.of_grown hgrow)
  have ho : Own .u32 63 w' w.heap.size (.slice (some ⟨w.heap.size, 0, none⟩) n n) n (fun _ => 0) :=
    Own.of_row hown (fun j hj => by
      rw [show (Value.int .u32 0).cells = #[Value.int .u32 0] from rfl, toList_madeCells_one]
      simp [hj])
  rcases ho with ⟨h, _⟩ | ⟨g, cap, h, _, _, hr⟩
  · cases h
  · cases h
    exact hr

theorem cells_below {k : IntKind} {w w' : World} {b off n : Nat} {f : Nat → Nat} (hb : Below w.heap.size w w') (hl : b < w.heap.size) (hc : ∀ j u, (cellsOf k f n)[j]? = some u → w.cell? ((⟨b, off, none⟩ : Addr).add j) = some u) :
    ∀ j u, (cellsOf k f n)[j]? = some u → w'.cell? ((⟨b, off, none⟩ : Addr).add j) = some u := by
  intro j u hj
  rw [hb.cell (p := (⟨b, off, none⟩ : Addr).add j) (by rw [Addr.add_lit]; exact hl)]
  exact hc j u hj

set_option maxHeartbeats 400000 in
theorem clone_any (ao : Option Addr) (n cap : Nat) (f : Nat → Nat) (w : World) (h : Rd .u32 w ao n f) (hn : 4 * n ≤ 281474976710656) :
    Calls Tryd.prog 47 #[.slice ao n cap] w fun e w' => e = .returned (.slice (some ⟨w.heap.size, 0, none⟩) n n) ∧ RowAt .u32 63 w' w.heap.size n n f ∧ Below w.heap.size w w' := by
  have hcs := cellsOf_length .u32 f n
  have hmin : (cellsOf .u32 f n).length = Nat.min n n := by rw [hcs]; exact (Nat.min_self n).symm
  go_enter Tryd.func47, Tryd.ntmps47
  go_wp2_with (first
    | (at_make; refine wpList_mkU rfl _ _ rfl .i64 .i64 _ _ n rfl rfl rfl rfl hn ?_; intro w1 hr hb; obtain ⟨cur, h1, h2, h3, h4⟩ := id hr; have h1' : w1.heap[w.heap.size]? = some (.cells cur.toList.toArray 63 (0, 0)) := (by simpa using h1))
    | (refine wpList_copy_splice rfl (.tmp 7) (.tmp 8) 22 22 rfl 63 Tryd.underlying22 (by kernel_rfl) _ _ _ _ _ _ rfl rfl w.heap.size 0 cur.toList 63 h1' (cellsOf .u32 f n) hmin (fun hp => ⟨rfl, by rw [hcs] at hp; obtain ⟨b, off, e, hl, hc⟩ := h.cells hp; exact ⟨_, e, cells_below hb hl hc⟩⟩) (by rw [hcs]; simp; omega) (cellsOf_one _ _ _) w.heap.size w hb (Nat.le_refl _) ?_; intro w2 HG hb2; clear h1 h1' hr hb))
  go_ret
  refine ⟨rfl, ⟨_, HG.out, ?_, Nat.le_refl _, fun i hi => ?_⟩, hb2⟩
  · simp [splice, hcs]; omega
  · simp only [splice, List.take_zero, List.nil_append, hcs, Nat.zero_add]
    rw [List.getElem?_toArray, List.getElem?_append_left (by rw [hcs]; exact hi), cellsOf_get _ _ _ _ hi]

set_option maxHeartbeats 1000000 in
theorem divideByLimb_any (g N K n cap d : Nat) (f : Nat → Nat) (w : World)
    (hrow : RowAt .u32 63 w g N K f) (hnK : n ≤ K) (hn : n ≤ 9223372036854775807) (hd : 0 < d) (hdl : d < 4294967296)
    (hf : ∀ i, i < n → f i < 4294967296) :
    Calls Tryd.prog 49 #[.slice (some ⟨g, 0, none⟩) n cap, .int .u32 d] w fun e w' => ∃ (f' : Nat → Nat), e = .returned (.int .u32 (num 4294967296 f n % d : Nat)) ∧ RowAt .u32 63 w' g N K f' ∧ Only g w w' ∧ (∀ i, i < n → f' i < 4294967296) ∧ num 4294967296 f' n = num 4294967296 f n / d := by
  go_enter Tryd.func49, Tryd.ntmps49
  go_wp2
  go_loopw [5, 6] (fun c t wr => ∃ (j : Nat) (f' : Nat → Nat) (r : Nat), j ≤ n ∧ t = .int .i64 ((j : Int) - 1) ∧ c = .int .u32 r ∧ RowAt .u32 63 wr g N K f' ∧ Only g w wr ∧ DivRel f d n j f' r) (fun _ t _ => (intOf t + 1).toNat)
  case atStart => exact ⟨n, f, 0, Nat.le_refl _, rfl, rfl, hrow, Only.refl _ _, DivRel.start hd⟩
  case round =>
    obtain ⟨j, f', r, hj, rfl, rfl, hr, ho, hrl⟩ := hrel
    by_cases hj0 : j = 0
    · subst hj0
      go_wp2
      go_ret
      exact ⟨f', by rw [← hrl.done.2]; rfl, hr, ho, fun i hi => hrl.2.2.1 i (by omega) hi, hrl.done.1⟩
    · obtain ⟨i, rfl⟩ : ∃ i, j = i + 1 := ⟨j - 1, by omega⟩
      have hrd : r < d := hrl.1
      have hx := hr.cell (i := i) (by omega)
      have hfr := hr.free i
      have hxl : f' i < 4294967296 := by rw [hrl.2.1 i (by omega)]; exact hf i (by omega)
      have HS := hide (hrl.step (x := f' i) (by omega) rfl hxl)
      have HR := hide hr
      have HO := hide ho
      clear hrl hr ho hf hrow
      generalize f' i = x at *
      rw [show (((i + 1 : Nat) : Int) - 1) = (i : Int) from by omega]
      go_wp2_with (go_at_call 66; refine (div32_any r x d _ hrd hxl hdl).mono ?_; rintro e w' ⟨rfl, rfl⟩)
      go_roundw
      case rel => exact ⟨i, _, _, by omega, by go_num, rfl, (unhide HR).set (by omega) _, ((unhide HO).setCell _ _).drew, unhide HS⟩
      case measure => simp [intOf]

set_option maxRecDepth 4000 in
set_option maxHeartbeats 2000000 in
theorem groupsOf_any (v : Value) (n : Nat) (f : Nat → Nat) (w : World) (hv : Sl .u32 w v n f) (hf : ∀ i, i < n → f i < 4294967296) (hn : 8 * (n + 1) ≤ 140737488355328) :
    Calls Tryd.prog 31 #[v] w fun e w' => ∃ v' k G, e = .returned v' ∧ Own .u32 63 w' w.heap.size v' k G ∧ Below w.heap.size w w' ∧ Can 1000000000 G k ∧ k ≤ 2 * n ∧ num 1000000000 G k = num 4294967296 f n := by
  obtain ⟨i, hi, hz0, hz1, hz2⟩ := info_parts infoU
  obtain ⟨ao, cap, rfl, h1, h2, h0, h3⟩ := hv
  have hV := num_lt hf
  go_enter Tryd.func31, Tryd.ntmps31
  go_wp2_with fail
  refine (trim_any _ _ _ f _ h3 h1 h2).mono ?_
  rintro e w1 ⟨rfl, p, hp, rfl, zp, tp⟩
  go_wp2_with fail
  refine (clone_any _ _ _ f _ (h3.mono hp) (by omega)).mono ?_
  rintro e w2 ⟨rfl, hr2, hb2⟩
  have HE := hide (num_tail (B := 4294967296) hp zp)
  have hz2' := hb2.size
  have hlt2 := hr2.lt
  go_wp2_with fail
  go_loopw [3, 4] (fun t3 t4 wr => ∃ (m k : Nat) (f' G : Nat → Nat), t3 = .slice (some ⟨w1.heap.size, 0, none⟩) m p ∧ m ≤ p ∧ RowAt .u32 63 wr w1.heap.size p p f' ∧ Can 4294967296 f' m ∧ Own .u32 63 wr (w1.heap.size + 1) t4 k G ∧ Below w1.heap.size w1 wr ∧ w1.heap.size + 1 ≤ wr.heap.size ∧ GroupRel (num 4294967296 f n) k G (num 4294967296 f' m) ∧ k ≤ 2 * n) (fun _ t4 _ => 2 * n - lenOf t4)
  case atStart => exact ⟨p, 0, f, fun _ => 0, rfl, Nat.le_refl _, hr2, ⟨fun i hi => hf i (by omega), tp⟩, .inl ⟨rfl, rfl⟩, hb2, by omega, ⟨fun i hi => by omega, by rw [unhide HE]; simp [num], fun _ => .inl rfl⟩, by omega⟩
  case round =>
    obtain ⟨m, k, f', G, rfl, hm, hr, hc, hown, hbel, hsz, hg, hk⟩ := hrel
    clear hr2 hb2 hlt2 hz2'
    by_cases hm0 : m = 0
    · subst hm0
      go_wp2_with fail
      go_ret
      have hx : num 4294967296 f' 0 = 0 := rfl
      rw [hx] at hg
      exact ⟨_, k, G, rfl, hown.mono (by omega), hbel, ⟨hg.1, hg.2.2 rfl⟩, hk, by rw [hg.2.1]; omega⟩
    · have hX : 0 < num 4294967296 f' m := by
        have := num_ge (B := 4294967296) (f := f') (n := m) (by omega) (by rcases hc.2 with h | h; omega; exact h)
        have : 0 < 4294967296 ^ (m - 1) := Nat.pos_of_ne_zero (by simp)
        omega
      have hfew := hg.few hX hV
      have HG := hide (hg.step hX)
      clear hg
      go_wp2_with fail
      refine (divideByLimb_any _ p p m _ 1000000000 f' _ hr hm (by omega) (by decide) (by decide) hc.1).mono ?_
      rintro e w3 ⟨f3, rfl, hr3, ho3, hd3, hq3⟩
      have hown3 : Own .u32 63 w3 (w1.heap.size + 1) u4 k G := by
        rcases hown with ⟨h, h'⟩ | ⟨g, cp, h, hb, hcp, hrr⟩
        · exact .inl ⟨h, h'⟩
        · exact .inr ⟨g, cp, h, hb, hcp, hrr.block (ho3.block g (by omega))⟩
      have hb3 := Only.below hbel ho3 (Nat.le_refl _)
      have hsz3 : w1.heap.size + 1 ≤ w3.heap.size := by rw [ho3.size]; exact hsz
      have hrow3 := hown3.row
      have HQ := hide hq3
      clear hq3 hown ho3 hr hbel hsz
      go_wp2_with (at_builtin; refine wpList_append_own _ rfl _ _ 22 rfl (w1.heap.size + 1) 63 i (.int .u32 0) 1 4 Tryd.underlying22 hi hz0 hz1 hz2 rfl (by decide) _ _ _ rfl (hrow3.alloc _) ⟨w3.heap.size, 0, none⟩ 1 1 [.int .u32 (num 4294967296 f' m % 1000000000 : Nat)] rfl rfl (cells_one _ _ _) (fun u hu => by simp at hu; subst hu; rfl) (by unfold maxLen; omega) (by omega) (by simp; omega) ?_; intro v4 w4 hown4 hgrow4 hx4)
      have hblk : w4.heap[w1.heap.size]? = w3.heap[w1.heap.size]? :=
        (hgrow4.block _ (by simp; omega) (fun e => by have := (hrow3.lt _ e.symm).1; omega)).trans (Below.heap_alloc w3 _ _ (by omega))
      have hr4 := hr3.block hblk
      have hb4 : Below w1.heap.size w1 w4 := (hb3.alloc (by omega) _).grown hgrow4 (by simp; omega) (fun j hj => by have := (hrow3.lt j hj).1; omega)
      have hsz4 : w1.heap.size + 1 ≤ w4.heap.size := by have := hgrow4.size; simp at this; omega
      have hown5 : Own .u32 63 w4 (w1.heap.size + 1) v4 (k + 1) (upd G k (num 4294967296 f' m % 1000000000)) := Own.of_row hown4 (fun j hj => by
        by_cases e : j = k
        · subst e
          rw [upd_same, List.getElem?_append_right (by rw [cellsOf_length]; exact Nat.le_refl _), cellsOf_length]
          simp
        · rw [upd_other e, List.getElem?_append_left (by rw [cellsOf_length]; omega), cellsOf_get _ _ _ _ (by omega)])
      have hlen : lenOf v4 = k + 1 := by
        rcases hown5 with ⟨h, h'⟩ | ⟨g, cp, h, _⟩
        · omega
        · rw [h]; rfl
      have hlen0 : lenOf u4 = k := by
        rcases hown3 with ⟨h, h'⟩ | ⟨g, cp, h, _⟩
        · rw [h, h']; rfl
        · rw [h]; rfl
      have HL := hide hlen
      have HL0 := hide hlen0
      clear hblk hr3 hb3 hrow3 hown3 hown4 hgrow4 hlen hlen0
      refine (trim_any _ m _ f3 _ (hr4.mono hm).rd hm (by omega)).mono ?_
      rintro e w5 ⟨rfl, q, hq, rfl, zq, tq⟩
      have hnq := num_tail (B := 4294967296) hq zq
      have HN := hide hnq
      clear hnq
      go_wp2_with fail
      go_roundw
      case rel => exact ⟨q, k + 1, f3, _, rfl, by omega, hr4, ⟨fun i hi => hd3 i (by omega), tq⟩, hown5, hb4, hsz4, by rw [← unhide HN, unhide HQ]; exact unhide HG, by omega⟩
      case measure => rw [unhide HL, unhide HL0]; omega

/-- The i-th of nine decimal digits. -/
def dig9 (gr i : Nat) : Nat := gr / (100000000 / 10 ^ i) % 10

theorem dig9_le (gr i : Nat) : dig9 gr i ≤ 9 := by unfold dig9; omega

theorem dec_dig9 (gr : Nat) (h : gr < 1000000000) : dec (dig9 gr) 9 = gr := by
  simp only [dec, dig9]
  simp only [Nat.reducePow, Nat.reduceDiv]
  omega

theorem unit_step (i : Nat) : 100000000 / 10 ^ i / 10 = 100000000 / 10 ^ (i + 1) := by
  rw [Nat.div_div_eq_div_mul, Nat.pow_succ]

theorem unit_pos (i : Nat) (h : i < 9) : 1 ≤ 100000000 / 10 ^ i ∧ 100000000 / 10 ^ i ≤ 100000000 := by
  refine ⟨?_, Nat.div_le_self _ _⟩
  rw [Nat.le_div_iff_mul_le (Nat.pos_of_ne_zero (by simp)), Nat.one_mul]
  exact Nat.le_trans (Nat.pow_le_pow_right (by decide) (show i ≤ 8 by omega)) (by decide)

/-- t behind, s ahead from place n on. -/
def glue (t s : Nat → Nat) (n : Nat) : Nat → Nat := fun i => if i < n then t i else s (i - n)

theorem glue_lo {t s : Nat → Nat} {n i : Nat} (h : i < n) : glue t s n i = t i := by simp [glue, h]

theorem glue_hi {t s : Nat → Nat} {n i : Nat} : glue t s n (n + i) = s i := by simp [glue]; intro h; omega

set_option maxRecDepth 4000 in
set_option maxHeartbeats 1000000 in
theorem appendGroup_any (base : Nat) (v : Value) (n gr : Nat) (t : Nat → Nat) (w : World) (hv : Own .u8 5 w base v n t) (hgr : gr < 4294967296) (hn : n + 9 ≤ 140737488355328) (hbase : base ≤ w.heap.size) :
    Calls Tryd.prog 33 #[v, .int .u32 gr] w fun e w' => ∃ v', e = .returned v' ∧ Own .u8 5 w' base v' (n + 9) (glue t (fun i => 48 + dig9 gr i) n) ∧ Below base w w' := by
  obtain ⟨i, hi, hz0, hz1, hz2⟩ := info_parts infoB
  go_enter Tryd.func33, Tryd.ntmps33
  go_wp2_with fail
  go_loopw [0, 5] (fun u0 t5 wr => ∃ j : Nat, j ≤ 9 ∧ t5 = .int .u32 (100000000 / 10 ^ j : Nat) ∧ Own .u8 5 wr base u0 (n + j) (glue t (fun i => 48 + dig9 gr i) n) ∧ Below base w wr ∧ base ≤ wr.heap.size) (fun u0 _ _ => n + 9 - lenOf u0)
  case atStart => exact ⟨0, by omega, rfl, by
    rcases hv with ⟨h, h'⟩ | ⟨g, cap, h, h1, h2, h3⟩
    · exact .inl ⟨h, h'⟩
    · exact .inr ⟨g, cap, h, h1, h2, h3.congr (fun i hi => (glue_lo hi).symm)⟩, Below.refl _ _, hbase⟩
  case round =>
    obtain ⟨j, hj, rfl, hown, hbel, hsz⟩ := hrel
    by_cases hj9 : j < 9
    · obtain ⟨hu1, hu2⟩ := unit_pos j hj9
      have hrow := hown.row
      have HU := hide (unit_step j)
      have HQ := hide (show dig9 gr j = gr / (100000000 / 10 ^ j) % 10 from rfl)
      generalize 100000000 / 10 ^ j = un at *
      have hq : (gr : Int) / (un : Int) = ((gr / un : Nat) : Int) := by simp
      have hql : gr / un ≤ gr := Nat.div_le_self _ _
      generalize gr / un = q at *
      go_wp2_with (at_builtin; refine wpList_append_own _ rfl _ _ 68 rfl base 5 i (.int .u8 0) 1 1 Tryd.underlying68 hi hz0 hz1 hz2 rfl (by decide) _ _ _ rfl (hrow.alloc _) ⟨wr.heap.size, 0, none⟩ 1 1 [.int .u8 (48 + (q : Int) % 10)] rfl rfl (cells_one _ _ _) (fun u hu => by simp at hu; subst hu; rfl) (by unfold maxLen; omega) (by omega) (by simp; omega) ?_; intro v4 w4 hown4 hgrow4 hx4)
      have hown5 : Own .u8 5 w4 base v4 (n + (j + 1)) (glue t (fun i => 48 + dig9 gr i) n) := Own.of_row hown4 (fun k hk => by
        by_cases e : k = n + j
        · subst e
          rw [glue_hi, unhide HQ, List.getElem?_append_right (by rw [cellsOf_length]; exact Nat.le_refl _), cellsOf_length]
          simp
        · rw [List.getElem?_append_left (by rw [cellsOf_length]; omega), cellsOf_get _ _ _ _ (by omega)])
      have hb4 : Below base w w4 := (hbel.alloc hsz _).grown hgrow4 (by simp; omega) (fun k hk => (hrow.lt k hk).1)
      have hsz4 : base ≤ w4.heap.size := by have := hgrow4.size; simp at this; omega
      have hlen : lenOf v4 = n + (j + 1) := by
        rcases hown5 with ⟨h, h'⟩ | ⟨g, cp, h, _⟩
        · omega
        · rw [h]; rfl
      have hlen0 : lenOf u0 = n + j := by
        rcases hown with ⟨h, h'⟩ | ⟨g, cp, h, _⟩
        · rw [h, h']; rfl
        · rw [h]; rfl
      have HL := hide hlen
      have HL0 := hide hlen0
      clear hrow hown hown4 hgrow4 hbel hlen hlen0 hx4
      go_wp2_with fail
      go_roundw
      case rel => exact ⟨j + 1, by omega, by rw [← unhide HU]; go_num, hown5, hb4, hsz4⟩
      case measure => rw [unhide HL, unhide HL0]; omega
    · obtain rfl : j = 9 := by omega
      go_wp2_with fail
      go_ret
      exact ⟨_, rfl, hown, hbel⟩

theorem glue_digits (d e : Nat → Nat) (n : Nat) : ∀ i, glue (fun i => 48 + d i) (fun i => 48 + e i) n i = 48 + glue d e n i := by
  intro i
  unfold glue
  split <;> rfl

theorem dec_glue (d : Nat → Nat) (gr L : Nat) (h : gr < 1000000000) : dec (glue d (dig9 gr) L) (L + 9) = dec d L * 1000000000 + gr := by
  rw [dec_split, dec_congr (d := glue d (dig9 gr) L) (e := d) (k := L) (fun i hi => glue_lo hi), dec_congr (d := fun i => glue d (dig9 gr) L (L + i)) (e := dig9 gr) (k := 9) (fun i hi => glue_hi), dec_dig9 gr h]

theorem glue_le {d : Nat → Nat} {gr L : Nat} (hd : ∀ i, i < L → d i ≤ 9) : ∀ i, i < L + 9 → glue d (dig9 gr) L i ≤ 9 := by
  intro i hi
  by_cases h : i < L
  · rw [glue_lo h]; exact hd i h
  · obtain ⟨j, rfl⟩ : ∃ j, i = L + j := ⟨i - L, by omega⟩
    rw [glue_hi]; exact dig9_le gr j

theorem num_top (B : Nat) (G : Nat → Nat) (j m : Nat) (h : j < m) : num B (fun i => G (j + i)) (m - j) = G j + B * num B (fun i => G (j + 1 + i)) (m - (j + 1)) := by
  rw [show m - j = m - (j + 1) + 1 from by omega, num_head, Nat.add_zero]
  rw [num_congr (f := fun i => G (j + (1 + i))) (g := fun i => G (j + 1 + i)) (fun i _ => by rw [← Nat.add_assoc])]

theorem Sl.cutAt {k : IntKind} {w : World} {ao : Option Addr} {n cap m : Nat} {f : Nat → Nat} (h : Sl k w (.slice ao n cap) n f) (hm : m ≤ n) : Sl k w (.slice ao m cap) m f := by
  obtain ⟨ao', cap', e, h1, h2, h0, h3⟩ := h
  cases e
  exact ⟨ao, cap, rfl, by omega, h2, h0, h3.mono hm⟩

set_option maxRecDepth 4000 in
set_option maxHeartbeats 1000000 in
theorem work_any (a : Value) (b : Bool) (n : Nat) (f : Nat → Nat) (w : World) (hv : Nm w a b n f) (hd : ∀ i, i < n → f i < 4294967296) :
    Calls Tryd.prog 10 #[a] w fun e w' => ∃ a' b' m, e = .returned a' ∧ (∀ w0, Nm w0 a b n f → Wk w0 a' b' m f) ∧ Up w w' ∧ CanZ b' f m ∧ m ≤ n ∧ sgn b' (num 4294967296 f m) = sgn b (num 4294967296 f n) := by
  obtain ⟨v, rfl, hv⟩ := hv
  obtain ⟨ao, cap, rfl, -⟩ := id hv
  obtain ⟨h3, h1, h2⟩ := ((hv.up (below_alloc w _)).up (below_alloc _ _)).rd
  go_enter Tryd.func10, Tryd.ntmps10
  go_wp2_with fail
  refine (numberOf_any ao n cap f b _ h3 h1 h2).mono ?_
  rintro e w1 ⟨m, hm, rfl, u1, hz, ht⟩
  obtain ⟨c0, c1, f0, f1, lt, e0, e1⟩ := res2 (w.heap.size + 1) (by simp) u1
  go_wp2_with fail
  refine bodyPost_ret (by simp [results, Tryd.results10, go_sem, e0, e1]; rfl) rfl ?_
  refine ⟨_, _, m, rfl, (fun w0 h => by obtain ⟨v, e, hv⟩ := h; cases e; exact ⟨_, rfl, hv.cutAt hm⟩), Up.set2 (((up_alloc w _).tr (up_alloc _ _)).tr u1) (by omega), CanZ.of ⟨fun i hi => hd i (by omega), ht⟩, hm, ?_⟩
  rw [sgn_cut, num_tail hm hz]

theorem num_pos {f : Nat → Nat} {n : Nat} (h : Can 4294967296 f n) (hn : n ≠ 0) : 0 < num 4294967296 f n := by
  have h1 := num_ge (B := 4294967296) (f := f) (n := n) (by omega) (by rcases h.2 with h | h; omega; exact h)
  have : 0 < 4294967296 ^ (n - 1) := Nat.pos_of_ne_zero (by simp)
  omega

def laysAU_ren : Go.Shelf.Ren := ⟨fun | 288 => 50 | 283 => 67 | 284 => 68 | 285 => 69 | 286 => 70 | 129 => 82 | 317 => 81 | 318 => 83 | 319 => 84 | 320 => 85 | 337 => 92 | 338 => 93 | n => n, fun | 37 => 68 | 53 => 70 | 3 => 3 | 4 => 4 | 9 => 9 | 171 => 100 | 0 => 0 | 173 => 103 | 212 => 114 | 51 => 63 | 5 => 5 | 20 => 20 | 213 => 115 | 46 => 106 | 232 => 124 | 233 => 125 | n => n, fun | 17 => 1 | 18 => 3 | 19 => 4 | n => n⟩
theorem laysAU : Go.Proofs.LaysM.n288 Tryd.prog laysAU_ren := {
  mixed := by kernel_rfl
  f129 := Tryd.func82.trans (congrArg some (by kernel_rfl))
  f283 := Tryd.func67.trans (congrArg some (by kernel_rfl))
  f284 := Tryd.func68.trans (congrArg some (by kernel_rfl))
  f285 := Tryd.func69.trans (congrArg some (by kernel_rfl))
  f286 := Tryd.func70.trans (congrArg some (by kernel_rfl))
  f288 := Tryd.func50.trans (congrArg some (by kernel_rfl))
  f317 := Tryd.func81.trans (congrArg some (by kernel_rfl))
  f318 := Tryd.func83.trans (congrArg some (by kernel_rfl))
  f319 := Tryd.func84.trans (congrArg some (by kernel_rfl))
  f320 := Tryd.func85.trans (congrArg some (by kernel_rfl))
  f337 := Tryd.func92.trans (congrArg some (by kernel_rfl))
  f338 := Tryd.func93.trans (congrArg some (by kernel_rfl))
  t0 := Tryd.underlying0
  a0 := Tryd.isAgg0
  z0 := Tryd.sizeOf0
  v0 := Tryd.zeroValue0
  t3 := Tryd.underlying3
  a3 := Tryd.isAgg3
  z3 := Tryd.sizeOf3
  v3 := Tryd.zeroValue3
  t4 := Tryd.underlying4
  a4 := Tryd.isAgg4
  z4 := Tryd.sizeOf4
  v4 := Tryd.zeroValue4
  t5 := Tryd.underlying5
  a5 := Tryd.isAgg5
  z5 := Tryd.sizeOf5
  v5 := Tryd.zeroValue5
  t9 := Tryd.underlying9
  a9 := Tryd.isAgg9
  z9 := Tryd.sizeOf9
  v9 := Tryd.zeroValue9
  t20 := Tryd.underlying20
  a20 := Tryd.isAgg20
  z20 := Tryd.sizeOf20
  v20 := Tryd.zeroValue20
  t37 := Tryd.underlying68
  a37 := Tryd.isAgg68
  z37 := Tryd.sizeOf68
  v37 := Tryd.zeroValue68
  t46 := Tryd.underlying106
  a46 := Tryd.isAgg106
  z46 := Tryd.sizeOf106
  v46 := Tryd.zeroValue106
  t51 := Tryd.underlying63
  a51 := Tryd.isAgg63
  z51 := Tryd.sizeOf63
  v51 := Tryd.zeroValue63
  t53 := Tryd.underlying70
  a53 := Tryd.isAgg70
  z53 := Tryd.sizeOf70
  v53 := Tryd.zeroValue70
  t171 := Tryd.underlying100
  a171 := Tryd.isAgg100
  z171 := Tryd.sizeOf100
  v171 := Tryd.zeroValue100
  t173 := Tryd.underlying103
  a173 := Tryd.isAgg103
  z173 := Tryd.sizeOf103
  v173 := Tryd.zeroValue103
  t212 := Tryd.underlying114
  a212 := Tryd.isAgg114
  z212 := Tryd.sizeOf114
  v212 := Tryd.zeroValue114
  t213 := Tryd.underlying115
  a213 := Tryd.isAgg115
  z213 := Tryd.sizeOf115
  t232 := Tryd.underlying124
  a232 := Tryd.isAgg124
  z232 := Tryd.sizeOf124
  v232 := Tryd.zeroValue124
  t233 := Tryd.underlying125
  a233 := Tryd.isAgg125
  z233 := Tryd.sizeOf125
  v233 := Tryd.zeroValue125
  g17 := by kernel_rfl
  g18 := by kernel_rfl
  g19 := by kernel_rfl
  i0 := by kernel_rfl
  i3 := by kernel_rfl
  i4 := by kernel_rfl
  i5 := by kernel_rfl
  i9 := by kernel_rfl
  i20 := by kernel_rfl
  i37 := by kernel_rfl
  i46 := by kernel_rfl
  i51 := by kernel_rfl
  i53 := by kernel_rfl
  i171 := by kernel_rfl
  i173 := by kernel_rfl
  i212 := by kernel_rfl
  i232 := by kernel_rfl
  i233 := by kernel_rfl
  m17 := by kernel_rfl
  m18 := by kernel_rfl
  m19 := by kernel_rfl }

theorem appU (B n u : Nat) (hu64 : u < 18446744073709551616) (sv : Value) (xs : List Value) (w : World) (hown : w.ownsRow B 5 1 sv n xs) (hBw : B ≤ w.heap.size) (hlim : n + 20 ≤ 140737488355328) (htab : Tab w) :
    Calls Tryd.prog 50 #[sv, .int .u64 u, .int .i64 10] w fun e w' => ∃ v', e = .returned v' ∧ w'.ownsRow B 5 1 v' (n + (Lib.decDigits u).length) (xs ++ Lib.byteCells (Lib.decDigits u)) ∧ Below B w w' ∧ Lib.OthersKept 5 none w w' :=
  Any.internal_strconv_AppendUint_10 laysAU B n u hu64 sv xs w hown hBw hlim htab

/-- The digit of u at place i from the left. -/
def dd (u i : Nat) : Nat := u / 10 ^ (Lib.nDigits u - 1 - i) % 10

theorem dec_places (L : Nat) : ∀ u, dec (fun i => u / 10 ^ (L - 1 - i) % 10) L = u % 10 ^ L := by
  induction L with
  | zero => intro u; simp [dec, Nat.mod_one]
  | succ L ih =>
    intro u
    show dec (fun i => u / 10 ^ (L + 1 - 1 - i) % 10) L * 10 + u / 10 ^ (L + 1 - 1 - L) % 10 = _
    rw [dec_congr (e := fun i => u / 10 / 10 ^ (L - 1 - i) % 10) (fun i hi => by
      rw [Nat.div_div_eq_div_mul, Nat.mul_comm, ← Nat.pow_succ, show (L - 1 - i).succ = L + 1 - 1 - i from by omega])]
    rw [ih, show L + 1 - 1 - L = 0 from by omega, Nat.pow_zero, Nat.div_one, Nat.pow_succ]
    have := Nat.mod_mul (a := 10) (b := 10 ^ L) (x := u)
    rw [Nat.mul_comm (10 ^ L) 10]
    omega

theorem ge_nDigits (u : Nat) (hu : 0 < u) : 10 ^ (Lib.nDigits u - 1) ≤ u := by
  induction u using Nat.strongRecOn with
  | _ u ih =>
    by_cases h : u < 10
    · rw [Lib.nDigits_small h]; exact hu
    · rw [Lib.nDigits_big h]
      have h1 := ih (u / 10) (by omega) (by omega)
      have h2 := Lib.nDigits_pos (u / 10)
      obtain ⟨k, hk⟩ : ∃ k, Lib.nDigits (u / 10) = k + 1 := ⟨_, (Nat.sub_add_cancel h2).symm⟩
      rw [hk] at h1 ⊢
      rw [show k + 1 + 1 - 1 = k + 1 from by omega, Nat.pow_succ]
      rw [show k + 1 - 1 = k from by omega] at h1
      omega

theorem nDigits_le (u : Nat) (hu : 0 < u) (h : u < 18446744073709551616) : Lib.nDigits u ≤ 20 := by
  apply Nat.le_of_not_lt
  intro h2
  have h3 := ge_nDigits u hu
  have h4 : 10 ^ 20 ≤ 10 ^ (Lib.nDigits u - 1) := Nat.pow_le_pow_right (by decide) (by omega)
  have h5 : 18446744073709551616 ≤ 10 ^ 20 := by decide
  omega

theorem dd_le (u i : Nat) : dd u i ≤ 9 := by
  unfold dd
  omega

theorem dd_dec (u : Nat) : dec (dd u) (Lib.nDigits u) = u := by
  show dec (fun i => u / 10 ^ (Lib.nDigits u - 1 - i) % 10) (Lib.nDigits u) = u
  rw [dec_places, Nat.mod_eq_of_lt (Lib.lt_pow_nDigits u)]

theorem dd_first (u : Nat) (hu : 0 < u) : dd u 0 ≠ 0 := by
  unfold dd
  rw [Nat.sub_zero]
  have h1 := ge_nDigits u hu
  have h2 := Lib.lt_pow_nDigits u
  have h3 := Lib.nDigits_pos u
  generalize Lib.nDigits u = k at *
  obtain ⟨j, rfl⟩ : ∃ j, k = j + 1 := ⟨k - 1, by omega⟩
  rw [show j + 1 - 1 = j from by omega] at *
  rw [Nat.pow_succ] at h2
  have h4 : 0 < 10 ^ j := Nat.pow_pos (by decide)
  have h5 : u / 10 ^ j < 10 := (Nat.div_lt_iff_lt_mul h4).2 (by rw [Nat.mul_comm]; exact h2)
  have h6 : 1 ≤ u / 10 ^ j := (Nat.le_div_iff_mul_le h4).2 (by omega)
  omega

theorem dd_cells (u j : Nat) (hj : j < Lib.nDigits u) : (Lib.byteCells (Lib.decDigits u))[j]? = some (.int .u8 ((48 + dd u j : Nat) : Int)) := by
  rw [Lib.decDigits_eq]
  unfold Lib.byteCells
  rw [List.getElem?_map, List.getElem?_map, List.getElem?_range hj]
  simp only [Option.map_some, Lib.dg, dd]
  rw [UInt8.toNat_ofNat']
  congr 2
  omega

/-- strconv.AppendUint, on a row of bytes of one's own. -/
def AppTab (u : Nat) : Prop := ∀ (base : Nat) (v : Value) (n : Nat) (t : Nat → Nat) (w : World), Own .u8 5 w base v n t → n + 20 ≤ 140737488355328 → base ≤ w.heap.size → Tab w →
    Calls Tryd.prog 32 #[v, .int .u64 u, .int .i64 10] w fun e w' => ∃ v' L d, e = .returned v' ∧ Own .u8 5 w' base v' (n + L) (glue t (fun i => 48 + d i) n) ∧ Below base w w' ∧ (∀ i, i < L → d i ≤ 9) ∧ 1 ≤ L ∧ L ≤ 20 ∧ d 0 ≠ 0 ∧ dec d L = u

theorem app_tab (u : Nat) (hu : 0 < u) (hu64 : u < 18446744073709551616) : AppTab u := by
  intro base v n t w hv hn hbase htab
  go_enter Tryd.func32, Tryd.ntmps32
  go_wp2_with fail
  refine (appU base n u hu64 v _ _ hv.row hbase hn htab).mono ?_
  rintro e w' ⟨v', rfl, ho, hb, -⟩
  have hl20 := nDigits_le u hu hu64
  go_wp2_with fail
  go_ret
  rw [Lib.decDigits_length] at ho
  refine ⟨v', Lib.nDigits u, dd u, rfl, Own.of_row ho (fun j hj => ?_), hb, fun i _ => dd_le u i, Lib.nDigits_pos u, hl20, dd_first u hu, dd_dec u⟩
  by_cases e : j < n
  · rw [List.getElem?_append_left (by rw [cellsOf_length]; exact e), cellsOf_get _ _ _ _ e, glue_lo e]
  · obtain ⟨k, rfl⟩ : ∃ k, j = n + k := ⟨j - n, by omega⟩
    rw [List.getElem?_append_right (by rw [cellsOf_length]; omega), cellsOf_length, show n + k - n = k from by omega, dd_cells u k (by omega), glue_hi]

set_option maxRecDepth 4000 in
set_option maxHeartbeats 2000000 in
theorem text_tab (v : Value) (n : Nat) (f : Nat → Nat) (w : World) (hv : Sl .u32 w v n f) (hf : ∀ i, i < n → f i < 4294967296) (hn : 100 * (n + 1) ≤ 140737488355328)
    (htab : Tab w) :
    Calls Tryd.prog 20 #[v] w fun e w' => ∃ s, e = .returned (.string s) ∧ Below w.heap.size w w' ∧ s.size ≤ 18 * n + 20 ∧ Says s (num 4294967296 f n) := by
  obtain ⟨i, hi, hz0, hz1, hz2⟩ := info_parts infoB
  go_enter Tryd.func20, Tryd.ntmps20
  go_wp2_with fail
  refine (groupsOf_any _ n f _ hv hf (by omega)).mono ?_
  rintro e w1 ⟨v1, k, G, rfl, ho1, hb1, hc1, hk1, hs1⟩
  have HS1 := hide hs1
  clear hs1
  rcases ho1 with ⟨rfl, rfl⟩ | ⟨g, cap, rfl, hg, hcap, hr1⟩
  · go_wp2_with fail
    go_ret
    refine ⟨⟨#[48]⟩, rfl, hb1, by show 1 ≤ _; omega, ?_⟩
    rw [← unhide HS1]
    refine ⟨fun _ => 0, Nat.le_refl _, fun i h => ?_, rfl, .inl rfl⟩
    have e : i = 0 := by have : i < 1 := h; omega
    subst e
    exact ⟨rfl, Nat.zero_le _⟩
  by_cases hk0 : k = 0
  · subst hk0
    go_wp2_with fail
    go_ret
    refine ⟨⟨#[48]⟩, rfl, hb1, by show 1 ≤ _; omega, ?_⟩
    rw [← unhide HS1]
    refine ⟨fun _ => 0, Nat.le_refl _, fun i h => ?_, rfl, .inl rfl⟩
    have e : i = 0 := by have : i < 1 := h; omega
    subst e
    exact ⟨rfl, Nat.zero_le _⟩
  obtain ⟨m, rfl⟩ : ∃ m, k = m + 1 := ⟨k - 1, by omega⟩
  have hkb : (((m + 1 : Nat) : Int) == 0) = false := beq_eq_false_iff_ne.2 (by omega)
  have hkb2 : ((m : Int) + 1 == 0) = false := beq_eq_false_iff_ne.2 (by omega)
  have hxm := hr1.cell (i := m) (by omega)
  have hGm : G m < 1000000000 := hc1.1 m (by omega)
  have hGm0 : 0 < G m := Nat.pos_of_ne_zero (by rcases hc1.2 with h | h; omega; rwa [Nat.add_sub_cancel] at h)
  have HAPP2 : Hid (AppTab (G m)) := hide (app_tab (G m) hGm0 (by omega))
  have hlt1 := hr1.lt
  go_wp2_with (at_make; refine wpList_make_own _ rfl _ _ 68 rfl w1.heap.size 5 i (.int .u8 0) 1 Tryd.underlying68 hi hz0 hz1 _ _ _ ((m + 1) * 9) rfl rfl (by omega) (by rw [hz2]; omega) (by unfold maxLen; omega) (Nat.le_refl _) ?_; intro w2 hown2 hgr2; have hb2 := Below.of_grown hgr2; have hx2 := (hb2.cell (p := ⟨g, m, none⟩) hlt1).trans hxm)
  have hown0 : Own .u8 5 w2 w1.heap.size (.slice (some ⟨w1.heap.size, 0, none⟩) 0 ((m + 1) * 9)) 0 (fun _ => 0) := Own.of_row hown2 (fun j hj => by omega)
  have hz2' := hb2.size
  refine (unhide HAPP2 w1.heap.size _ 0 (fun _ => 0) _ hown0 (by omega) (by omega) (htab.up (Up.tr hb1 hb2))).mono ?_
  rintro e w3 ⟨v3, L, d, rfl, ho3, hb3, hd3, hL1, hL2, hd0, hdec⟩
  have ho3' : Own .u8 5 w3 w1.heap.size v3 L (fun i => 48 + d i) := by
    rw [Nat.zero_add] at ho3
    exact ho3.congr (fun i hi => by simp [glue])
  have hb3' := hb2.trans hb3
  have HDEC := hide hdec
  have HD0 := hide hd0
  clear hown0 hown2 hgr2 hb2 hx2 hb3 ho3 HAPP2 hdec hd0
  go_wp2_with fail
  go_loopw [5, 6] (fun u5 t6 wr => ∃ (j L : Nat) (d : Nat → Nat), j ≤ m ∧ t6 = .int .i64 ((j : Int) - 1) ∧ Own .u8 5 wr w1.heap.size u5 L (fun i => 48 + d i) ∧ Below w1.heap.size w1 wr ∧ w1.heap.size ≤ wr.heap.size ∧ (∀ i, i < L → d i ≤ 9) ∧ 1 ≤ L ∧ L + 9 * j ≤ 20 + 9 * m ∧ d 0 ≠ 0 ∧ dec d L = num 1000000000 (fun i => G (j + i)) (m + 1 - j)) (fun _ t6 _ => (intOf t6 + 1).toNat)
  case atStart => exact ⟨m, L, d, Nat.le_refl _, rfl, ho3', hb3', by have := hb3'.size; omega, hd3, hL1, by omega, unhide HD0, by rw [unhide HDEC, show m + 1 - m = 1 from by omega]; simp [num]⟩
  case round =>
    clear ho3' hb3' HDEC HD0 hd3 hL1 hL2
    obtain ⟨j, L', d', hj, rfl, ho, hb, hsz, hd, hL1, hL2, hd0, hdec⟩ := hrel
    have HDEC := hide hdec
    have HD0 := hide hd0
    clear hdec hd0
    by_cases hj0 : j = 0
    · subst hj0
      rcases ho with ⟨h, h'⟩ | ⟨g5, cap5, h5, hb5, hc5, hr5⟩
      · omega
      subst h5
      have hconv := conv_digits _ g5 cap5 L' _ d' hd hr5
      go_wp2_with fail
      go_ret
      have hsz5 : (⟨(digText d' L').toArray⟩ : ByteArray).size = L' := by simp [ByteArray.size, digText_length]
      refine ⟨_, rfl, hb1.trans (hb.mono hb1.size), by rw [hsz5]; omega, says_mk d' L' _ hd hL1 ?_ (.inr (unhide HD0))⟩
      rw [unhide HDEC, ← unhide HS1, Nat.sub_zero]
      exact num_congr (fun i _ => by rw [Nat.zero_add])
    · obtain ⟨q, rfl⟩ : ∃ q, j = q + 1 := ⟨j - 1, by omega⟩
      have hGq : G q < 1000000000 := hc1.1 q (by omega)
      have hx := (hb.cell (p := ⟨g, q, none⟩) hlt1).trans (hr1.cell (i := q) (by omega))
      have HT := hide (num_top 1000000000 G q (m + 1) (by omega))
      have HG := hide (dec_glue d' (G q) L' hGq)
      have HGL := hide (glue_le (gr := G q) hd)
      have HG0 := hide (show glue d' (dig9 (G q)) L' 0 ≠ 0 by rw [glue_lo (by omega)]; exact unhide HD0)
      rw [show (((q + 1 : Nat) : Int) - 1) = (q : Int) from by omega]
      generalize G q = gq at *
      go_wp2_with fail
      refine (appendGroup_any w1.heap.size _ L' gq _ _ ho (by omega) (by omega) hsz).mono ?_
      rintro e w4 ⟨v4, rfl, ho4, hb4⟩
      have ho4' := ho4.congr (fun i _ => glue_digits d' (dig9 gq) L' i)
      have hb4' := hb.trans hb4
      clear ho ho4 hb hb4 hd
      go_wp2_with fail
      go_roundw
      case rel => exact ⟨q, L' + 9, glue d' (dig9 gq) L', by omega, rfl, ho4', hb4', by have := hb4'.size; omega, unhide HGL, by omega, by omega, unhide HG0, by rw [unhide HG, unhide HDEC, unhide HT]; omega⟩
      case measure => simp [intOf]

theorem pow10_data : (Rows.laid_internal_strconv_uint64pow10 : DataW Unit) = Lib.tabData .u64 Lib.pow10Tab := by rfl

set_option maxRecDepth 100000 in
theorem tab_of_laid {w : World} (h : laidMetH Tryd.prog Rows.readNumbersRow.laid w) : Tab w := by
  have h2 : laidMet Tryd.prog Rows.readNumbersRow.laid w := h
  obtain ⟨ps, ⟨_, _, _, _, _, q1, _, _, _, _, ⟨_, _, _, _, _, q2, _, _, _, _, ⟨g, t, cs, fuel, p, q, hg, ht, hvar, hd, _, _⟩, _⟩, _⟩, _⟩ := h2
  have hg' : Tryd.prog.globalNamed "internal/strconv.uint64pow10" = some 1 := by kernel_rfl
  have ht' : (Tryd.prog.globals[1]?).map (·.type) = some 114 := by kernel_rfl
  obtain rfl := Option.some.inj (hg'.symm.trans hg)
  obtain rfl := Option.some.inj (ht'.symm.trans ht)
  rw [pow10_data] at hd
  unfold Tab Lib.TabIs
  rw [hvar, ← Lib.cells_of_tab (n := 20) (e := 70) (by kernel_rfl) (by kernel_rfl) (by kernel_rfl) (by kernel_rfl) hd]

theorem Own.cutAt {k : IntKind} {E : TypeId} {w : World} {base : Nat} {ao : Option Addr} {n cap m : Nat} {f : Nat → Nat} (h : Own k E w base (.slice ao n cap) n f) (hm : m ≤ n) : Own k E w base (.slice ao m cap) m f := by
  rcases h with ⟨e, rfl⟩ | ⟨g, cap', e, h1, h2, h3⟩
  · cases e
    obtain rfl : m = 0 := by omega
    exact .inl ⟨rfl, rfl⟩
  · cases e
    exact .inr ⟨g, cap, rfl, h1, h2, h3.mono hm⟩

set_option maxRecDepth 4000 in
set_option maxHeartbeats 1000000 in
theorem sizeText_any (v : Value) (n : Nat) (f : Nat → Nat) (w : World) (hv : Sl .u32 w v n f) (hf : ∀ i, i < n → f i < 4294967296) (hn : 100 * (n + 1) ≤ 140737488355328) (htab : Tab w) :
    Calls Tryd.prog 11 #[v] w fun e w' => ∃ s, e = .returned (.string s) ∧ Up w w' ∧ s.size ≤ 18 * n + 20 ∧ Says s (num 4294967296 f n) := by
  go_enter Tryd.func11, Tryd.ntmps11
  go_wp2_with fail
  refine (text_tab v n f w hv hf hn htab).mono ?_
  rintro e w1 ⟨s, rfl, u1, l1, s1⟩
  have HS := hide s1
  clear s1
  go_wp2_with fail
  go_ret
  exact ⟨s, rfl, u1, l1, unhide HS⟩

set_option maxRecDepth 4000 in
set_option maxHeartbeats 1000000 in
theorem textz_any (a : Value) (b : Bool) (n : Nat) (f : Nat → Nat) (w : World) (ha : Nm w a b n f) (hd : ∀ i, i < n → f i < 4294967296) (hn : 100 * (n + 1) ≤ 140737488355328) (htab : Tab w) :
    Calls Tryd.prog 4 #[a] w fun e w' => ∃ s, e = .returned (.string s) ∧ Up w w' ∧ s.size ≤ 18 * n + 21 ∧ SaysZ s (sgn b (num 4294967296 f n)) := by
  obtain ⟨v, rfl, hv⟩ := ha
  obtain ⟨ao, cap, rfl, -⟩ := id hv
  go_enter Tryd.func4, Tryd.ntmps4
  go_wp2_with fail
  refine (work_any _ b n f _ ⟨_, rfl, hv.up (up_alloc _ _)⟩ hd).mono ?_
  rintro e w1 ⟨a1, b1, m1, rfl, hw1, u1, c1, l1, s1⟩
  obtain ⟨v1, rfl, sv1⟩ := hw1 w ⟨_, rfl, hv⟩
  obtain ⟨ao1, cap1, rfl, -⟩ := id sv1
  have HS1 := hide s1
  clear s1 hw1
  have U1 : Up w w1 := (up_alloc w _).tr u1
  cases b1
  · go_wp2_with fail
    refine (sizeText_any _ m1 f _ (sv1.up (U1.tr (up_alloc _ _))) c1.1.1 (by omega) (htab.up (U1.tr (up_alloc _ _)))).mono ?_
    rintro e w2 ⟨s, rfl, u2, l2, s2⟩
    have HS2 := hide s2
    clear s2
    go_wp2_with fail
    go_ret
    refine ⟨s, rfl, (U1.tr (up_alloc _ _)).tr u2, by omega, .inl ?_⟩
    rw [← unhide HS1]
    have := unhide HS2
    simp only [sgn]
    simpa using this
  · go_wp2_with fail
    refine (sizeText_any _ m1 f _ (sv1.up (U1.tr (up_alloc _ _))) c1.1.1 (by omega) (htab.up (U1.tr (up_alloc _ _)))).mono ?_
    rintro e w2 ⟨s, rfl, u2, l2, s2⟩
    have HS2 := hide s2
    clear s2
    go_wp2_with fail
    go_ret
    refine ⟨_, rfl, (U1.tr (up_alloc _ _)).tr u2, by rw [ByteArray.size_append]; show 1 + s.size ≤ _; omega, .inr ?_⟩
    rw [← unhide HS1]
    have h1 := unhide HS2
    have h2 := num_pos c1.1 (c1.2 rfl)
    simp only [sgn]
    refine ⟨by simp; omega, s, rfl, by simpa using h1⟩

theorem div_one {A Bv : Nat} (h : A < Bv) : A / Bv = 0 ∧ A % Bv = A := ⟨Nat.div_eq_of_lt h, Nat.mod_eq_of_lt h⟩

end Go.Proofs.YteipogfolnlblaaDoor
