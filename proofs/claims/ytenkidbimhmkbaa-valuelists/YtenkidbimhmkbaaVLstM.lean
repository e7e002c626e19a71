/-
  What is proved here: the words of a list and a vector of fixnums, as the statement ValueLists lays them.
-/
import Derived.Test.YtenkidbimhmkbaaVTakL
import Derived.Test.YtenkidbimhmkbaaVSameL
import Derived.Test.YtenkidbimhmkbaaVOlds
import Derived.Test.YtenkidbimhmkbaaVSt
import Derived.Test.YtenkidbimhmkbaaVList
import Derived.Test.YtenkidbimhmkbaaSlI
namespace Go.Proofs.Ytenkidbimhmkbaa
open Go Go.RowKit

theorem shapeTag {H : Nat} (h : shapeB H 1 2 0 = true) : hTag H = 2 := by
  unfold shapeB at h
  simp at h
  omega
theorem grow_own {w1 wr w9 : World} {v : Value} {k : Nat} {f : Nat → Nat} {o : Obj} (hO : Own .u64 22 wr w1.heap.size v k f) (hF : Fr (fun _ => False) w1 wr) (hg : (wr.alloc o).grownBy w9 v.ownBlock) : Fr (fun _ => False) w1 w9 :=
  (hF.alloc o).grow hg (fun j hj e => by
    rcases hO with ⟨rfl, _⟩ | ⟨b, cap, rfl, h1, _, _⟩
    · cases e
    · have e2 : b = j := by simpa [Value.ownBlock] using e
      omega)

/-- The words that the statement makes of numbers. -/
def listW (g : Nat → Int) (i : Nat) : Nat := (fixW ((g i).tmod 100000)).toNat
theorem listW_fix (g : Nat → Int) (k : Nat) : fixW ((g k).tmod 100000) = (listW g k : Int) := by
  unfold listW fixW
  rw [Int.toNat_of_nonneg (by omega)]
theorem listW_lt (g : Nat → Int) (i : Nat) : listW g i < 18446744073709551616 := by
  unfold listW fixW
  omega
theorem listW_one (g : Nat → Int) (i : Nat) : listW g i % 4 = 1 := by unfold listW fixW; omega
theorem listW_may (g : Nat → Int) (st : Nat → Bool) (i : Nat) : may st (listW g i) = true := by
  have := listW_one g i
  exact may_1 (by omega) (by omega)
theorem tmod5_range (x : Int) : -100000 < x.tmod 100000 ∧ x.tmod 100000 < 100000 := ⟨(place_num x 100000 (by decide)).2.2, Int.tmod_lt_of_pos x (by decide)⟩

/-- l pairs of a chain. -/
def ChainAt (f : Nat → Nat) (st : Nat → Bool) (n e : Nat) (r : Nat → Nat) (l : Nat) : Prop := ∀ j, j < l → f (n + 3 * j) = hOf 1 2 0 ∧ st (n + 3 * j) = true ∧ f (n + 3 * j + 1) = r j ∧ f (n + 3 * j + 2) = chainE n e j
theorem ChainAt.later {f f' : Nat → Nat} {st st' : Nat → Bool} {n e l m : Nat} {r : Nat → Nat} (h : ChainAt f st n e r l) (ho : Olds f st f' st' m) (hm : n + 3 * l ≤ m) : ChainAt f' st' n e r l := fun j hj => ⟨(ho _ (by omega)).1.trans (h j hj).1, (ho _ (by omega)).2 (h j hj).2.1, (ho _ (by omega)).1.trans (h j hj).2.2.1, (ho _ (by omega)).1.trans (h j hj).2.2.2⟩
theorem chainAt_new (f : Nat → Nat) (st : Nat → Bool) (n e : Nat) (r : Nat → Nat) : ∀ l, ChainAt (chainF f n e r l) (chainSt st n l) n e r l
  | 0 => fun j hj => by omega
  | l + 1 => fun j hj => by
    show consF (chainF f n e r l) (n + 3 * l) (r l) (chainE n e l) (n + 3 * j) = _ ∧ also (chainSt st n l) (n + 3 * l) (n + 3 * j) = true ∧ consF (chainF f n e r l) (n + 3 * l) (r l) (chainE n e l) (n + 3 * j + 1) = _ ∧ consF (chainF f n e r l) (n + 3 * l) (r l) (chainE n e l) (n + 3 * j + 2) = _
    rcases (show j < l ∨ j = l by omega) with e | e
    · exact (chainAt_new f st n _ r l).later (olds_cons _ _ (n + 3 * l) (r l) _) (Nat.le_refl _) j e
    · subst e
      exact ⟨consF_head _ _ _ _, also_new _ _, consF_car _ _ _ _, consF_cdr _ _ _ _⟩
theorem olds_tag (f : Nat → Nat) (st : Nat → Bool) (n h : Nat) (r : Nat → Nat) (l : Nat) : Olds f st (tagF f n h r l) (also st n) n := fun j hj => ⟨by unfold tagF; rw [if_neg (by omega), laid_old hj], fun e => by simp [also, e]⟩

/-- The words of a chain of l pairs, as one goes. -/
def goU (n l k : Nat) : Nat := chainE n 10 (l - k)
theorem chain_follows {f : Nat → Nat} {st : Nat → Bool} {n l : Nat} {r : Nat → Nat} (h : ChainAt f st n 10 (fun k => r (l - 1 - k)) l) (hn : n + 3 * l ≤ 2000) (hr : ∀ i, r i < 18446744073709551616) (h1 : ∀ i, r i % 4 = 1) : Follows f st (goU n l) r (fun k => intW (r k)) l := by
  have hw : ∀ k, k < l → goU n l k = 4 * (n + 3 * (l - 1 - k)) := fun k hk => by
    unfold goU
    rw [show l - k = (l - 1 - k) + 1 by omega]
    rfl
  have hp : ∀ k, k < l → isPtr st (goU n l k) = true := fun k hk => by
    rw [hw k hk]
    exact ptr_of (h _ (by omega)).2.1
  have hh : ∀ k, k < l → headOf f st (goU n l k) = hOf 1 2 0 := fun k hk => by
    rw [headOf_yes (hp k hk), hw k hk, show 4 * (n + 3 * (l - 1 - k)) / 4 = n + 3 * (l - 1 - k) by omega]
    exact (h _ (by omega)).1
  have hf : ∀ k j, k < l → j < 2 → fieldAt f st (goU n l k) j = f (n + 3 * (l - 1 - k) + 1 + j) := fun k j hk hj => by
    unfold fieldAt
    rw [hh k hk, if_pos (by rw [hTag_of (by decide) (by decide)]; exact hj), hw k hk, show 4 * (n + 3 * (l - 1 - k)) / 4 = n + 3 * (l - 1 - k) by omega]
  refine ⟨fun k hk => ?_, fun k hk => ?_, fun k hk => ?_, fun k => ?_, hr, h1, fun _ => rfl⟩
  · rw [hh k hk]
    decide
  · rw [hf k 0 hk (by decide)]
    exact (h _ (by omega)).2.2.1.trans (by show r (l - 1 - (l - 1 - k)) = r k; rw [show l - 1 - (l - 1 - k) = k by omega])
  · rw [hf k 1 hk (by decide)]
    exact (h _ (by omega)).2.2.2.trans (by unfold goU; rw [show l - (k + 1) = l - 1 - k by omega])
  · unfold goU
    exact chainE_lt (by decide) (by omega)
theorem goU_end (n l : Nat) : goU n l l = 10 := by unfold goU; rw [Nat.sub_self]; rfl

theorem vec_head {f : Nat → Nat} {st : Nat → Bool} {n l : Nat} {r : Nat → Nat} : headOf (tagF f n (hOf 2 l 0) r l) (also st n) (4 * n) = hOf 2 l 0 := by
  rw [headOf_yes (ptr_of (also_new _ _)), show 4 * n / 4 = n by omega, tagF_head]
theorem vec_fields {f : Nat → Nat} {st : Nat → Bool} {n l : Nat} {r : Nat → Nat} (hl : l ≤ 100) (hr : ∀ i, r i < 18446744073709551616) (h1 : ∀ i, r i % 4 = 1) : Fields (tagF f n (hOf 2 l 0) r l) (also st n) (4 * n) l r (fun k => intW (r k)) := by
  refine ⟨fun k hk => ?_, hr, h1, fun _ => rfl⟩
  unfold fieldAt
  rw [vec_head, if_pos (by rw [hTag_of (by decide) (by omega)]; exact hk), show 4 * n / 4 = n by omega]
  unfold tagF
  rw [if_pos (by omega), show n + 1 + k - (n + 1) = k by omega]

/-- Get of a field that is there. -/
theorem get_field (w : World) (hb : Nat) (X : Nat → Prop) (sz : Nat) (tm : Int) (n : Nat) (f : Nat → Nat) (st : Nat → Bool) (x j y : Nat) (h : HeapAt w hb X sz tm n f st) (hx : x < 18446744073709551616) (hj : j < hTag (headOf f st x)) (hy : fieldAt f st x j = y) :
    Calls Try.prog 35 #[.pointer (some ⟨hb, 0, none⟩), .int .u64 (x : Int), .int .i64 (j : Int)] w fun e w' => e = .returned (.tuple #[.int .u64 (y : Int), .bool true]) ∧ ∃ q, w' = w.drewN q := by
  have hp := headOf_ptrT hj
  have hh := headOf_yes (f := f) hp
  have := geth_in w hb X sz tm n f st x j h hx hp (by rw [← hh]; exact hj)
  have e : f (x / 4 + 1 + j) = y := by rw [← hy]; unfold fieldAt; rw [if_pos hj]
  rw [e] at this
  exact this

/-- A list of fixnums is told, empty or not. -/
theorem take_chain (w : World) (sb hb : Nat) (X : Nat → Prop) (sz : Nat) (tm : Int) (n : Nat) (f : Nat → Nat) (st : Nat → Bool) (u c : Nat → Nat) (z : Nat → Int) (K : Nat) (h : HeapAt w hb X sz tm n f st) (hS : w.cell? ⟨sb, 0, none⟩ = some (.pointer (some ⟨hb, 0, none⟩))) (hf : Follows f st u c z K) (hK : K ≤ 100) (hend : u K = 10) :
    Calls Try.prog 36 #[.pointer (some ⟨sb, 0, none⟩), .int .u64 (u 0 : Int), .int .i64 20000] w fun e w' => ∃ v, e = .returned (.tuple #[.agg #[.int .i64 6, .int .i64 0, .bool false, .slice none 0 0, .string ⟨#[]⟩, v, .slice none 0 0], .bool true]) ∧ Items w w' v K z ∧ Fr (fun _ => False) w w' := by
  by_cases h0 : K = 0
  · subst h0
    rw [hend]
    exact take_ten w sb hb X sz tm n f st z h hS
  · exact take_list w sb hb X sz tm n f st u c z K h hS hf (by omega) hK hend

theorem WordsV.frS {w w' : World} {S : Nat → Prop} {v : Value} {b off l : Nat} {r : Nat → Nat} (h : WordsV w v b off l r) (F : Fr S w w') (hb : ¬ S b) : WordsV w' v b off l r := by
  rcases h with e | ⟨c, e1, e2, e3, e4⟩
  · exact .inl e
  · exact .inr ⟨c, e1, e2, Nat.lt_of_lt_of_le e3 F.size, fun i hi => (F.cell e3 hb).trans (e4 i hi)⟩
theorem WordsV.at_ {w : World} {ao : Option Addr} {b off l c : Nat} {r : Nat → Nat} (h : WordsV w (.slice ao l c) b off l r) {k : Nat} (hk : k < l) : ao = some ⟨b, off, none⟩ ∧ w.cell? ⟨b, off + k, none⟩ = some (.int .u64 (r k : Int)) := by
  rcases h with ⟨_, _, _, e2⟩ | ⟨c, e1, e2, e3, e4⟩
  · omega
  · cases e1
    exact ⟨rfl, e4 k hk⟩
theorem words_of_own2 {w w1 wr : World} {sb hb : Nat} {X : Nat → Prop} {sz n : Nat} {f : Nat → Nat} {st : Nat → Bool} (h : St w w1 sb hb X sz n f st) (F : Fr (fun _ => False) w1 wr) {ao : Option Addr} {cap l : Nat} {r : Nat → Nat} (hO : Own .u64 22 wr w1.heap.size (.slice ao l cap) l r) (hl : l ≤ 17592186044416) : ∃ b off, b < wr.heap.size ∧ ¬ X b ∧ WordsV wr (.slice ao l cap) b off l r := by
  rcases hO with ⟨e, e2⟩ | ⟨b, c, e, h1, h2, h3⟩
  · exact ⟨sb, 0, Nat.lt_of_lt_of_le (World.block_lt_of_cell? _ _ h.S) F.size, h.sX, .inl ⟨_, _, by rw [e2], e2⟩⟩
  · cases e
    exact ⟨b, 0, h3.lt, fun h' => by have := h.H.lt h'; omega, .inr ⟨_, rfl, by omega, h3.lt, fun i hi => by rw [Nat.zero_add]; exact h3.cell hi⟩⟩
theorem Grows.not {N b : Nat} {X X2 : Nat → Prop} (G : Grows N X X2) (hb : ¬ X b) (hl : b < N) : ¬ X2 b := fun e => by
  rcases G b e with e | e
  · exact hb e
  · omega

end Go.Proofs.Ytenkidbimhmkbaa
