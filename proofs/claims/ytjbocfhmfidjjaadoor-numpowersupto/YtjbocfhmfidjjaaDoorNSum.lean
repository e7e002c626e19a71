/-
  What is proved here: num.difference, num.total and num.sum: the sum of any numbers with their signs, canonical, in new memory. num.total and num.sum: the sum of any numbers with their signs, canonical, in new memory.
-/
import Derived.Test.YtjbocfhmfidjjaaDoorNBase
import Derived.Maps.AppendAt
namespace Go.Proofs.YtjbocfhmfidjjaaDoor
open Go Go.RowKit

theorem numberOf_own (base : Nat) (v : Value) (n : Nat) (f : Nat → Nat) (b : Bool) (w : World) (hv : Own .u32 64 w base v n f) (hc : Can 4294967296 f n) :
    Calls Tryd.prog 59 #[v, .bool b] w fun e w' => ∃ a b', e = .returned a ∧ OwnW w' base a b' n f ∧ Up w w' ∧ CanZ b' f n ∧ sgn b' (num 4294967296 f n) = sgn b (num 4294967296 f n) := by
  have hs := hv.sl
  obtain ⟨ao, cap, rfl, -⟩ := id hs
  obtain ⟨h3, h1, h2⟩ := hs.rd
  refine (numberOf_any ao n cap f b w h3 h1 h2).mono ?_
  rintro e w' ⟨m, hm, rfl, u, hz, ht⟩
  obtain rfl : m = n := by
    rcases Nat.lt_or_ge m n with hl | hl
    · exact absurd (hz (n - 1) (by omega) (by omega)) (by rcases hc.2 with h | h; omega; exact h)
    · omega
  exact ⟨_, _, rfl, ⟨_, rfl, hv.up u⟩, u, CanZ.of hc, sgn_cut⟩

set_option maxRecDepth 4000 in
set_option maxHeartbeats 1000000 in
theorem difference_any (v u : Value) (n m : Nat) (f h : Nat → Nat) (w : World) (hv : Sl .u32 w v n f) (hu : Sl .u32 w u m h) (hf : ∀ i, i < n → f i < 4294967296) (hh : ∀ i, i < m → h i < 4294967296) (hn : 4 * n ≤ 281474976710656) (hm : 4 * m ≤ 281474976710656) :
    Calls Tryd.prog 75 #[v, u] w fun e w' => ∃ a b k q, e = .returned a ∧ OwnW w' w.heap.size a b k q ∧ Up w w' ∧ CanZ b q k ∧ (k ≤ n ∨ k ≤ m) ∧ sgn b (num 4294967296 q k) = (num 4294967296 f n : Int) - num 4294967296 h m := by
  have hv' := hv.up (below_alloc w (.cells #[.slice none 0 0, .bool false] 51))
  have hu' := hu.up (below_alloc w (.cells #[.slice none 0 0, .bool false] 51))
  go_enter Tryd.func75, Tryd.ntmps75
  go_wp2_with fail
  by_cases hlt : num 4294967296 f n < num 4294967296 h m
  · have HLT := hide hlt
    clear hlt
    refine (sub_lt _ _ n m f h _ hv' hu' hf hh (unhide HLT)).mono ?_
    rintro e w1 ⟨rfl, u1⟩
    replace u1 : Up _ w1 := u1
    go_wp2_with fail
    refine (sub_ge _ _ m n h f _ (hu'.up u1) (hv'.up u1) hh hf hm (Nat.le_of_lt (unhide HLT))).mono ?_
    rintro e w2 ⟨v2, n2, f2, rfl, o2, u2, c2, l2, s2⟩
    replace u2 : Up w1 w2 := u2
    have HS2 := hide s2
    clear s2
    obtain ⟨ao2, cap2, rfl, -⟩ := id o2.sl
    go_wp2_with fail
    refine (numberOf_own w1.heap.size _ n2 f2 true _ o2 c2).mono ?_
    rintro e w3 ⟨a3, b3, rfl, o3, u3, c3, s3⟩
    have HS3 := hide s3
    clear s3
    obtain ⟨v3, rfl, o3⟩ := o3
    obtain ⟨ao3, cap3, rfl, -⟩ := id o3.sl
    obtain ⟨d0, d1, g0, g1, lt, e0, e1⟩ := res2 w.heap.size rfl ((u1.tr u2).tr u3)
    have hz1 : w.heap.size < w1.heap.size := by have := Below.size u1; simp at this; omega
    go_wp2_with fail
    refine bodyPost_ret (by simp [results, Tryd.results75, go_sem, e0, e1]; rfl) rfl ?_
    refine ⟨_, b3, n2, f2, rfl, ⟨_, rfl, (o3.set2 hz1).mono (by omega)⟩, Up.set2 ((up_alloc w _).tr ((u1.tr u2).tr u3)) (Nat.le_refl _), c3, .inr l2, ?_⟩
    have := unhide HS2
    rw [unhide HS3]
    simp only [sgn]
    simp
    omega
  · have HLT := hide hlt
    clear hlt
    refine (sub_ge _ _ n m f h _ hv' hu' hf hh hn (Nat.le_of_not_lt (unhide HLT))).mono ?_
    rintro e w2 ⟨v2, n2, f2, rfl, o2, u2, c2, l2, s2⟩
    replace u2 : Up _ w2 := u2
    have HS2 := hide s2
    clear s2
    obtain ⟨ao2, cap2, rfl, -⟩ := id o2.sl
    go_wp2_with fail
    refine (numberOf_own (w.heap.size + 1) _ n2 f2 false _ (o2.mono (by simp)) c2).mono ?_
    rintro e w3 ⟨a3, b3, rfl, o3, u3, c3, s3⟩
    have HS3 := hide s3
    clear s3
    obtain ⟨v3, rfl, o3⟩ := o3
    obtain ⟨ao3, cap3, rfl, -⟩ := id o3.sl
    obtain ⟨d0, d1, g0, g1, lt, e0, e1⟩ := res2 w.heap.size rfl (u2.tr u3)
    go_wp2_with fail
    refine bodyPost_ret (by simp [results, Tryd.results75, go_sem, e0, e1]; rfl) rfl ?_
    refine ⟨_, b3, n2, f2, rfl, ⟨_, rfl, (o3.set2 (by omega)).mono (by omega)⟩, Up.set2 ((up_alloc w _).tr (u2.tr u3)) (Nat.le_refl _), c3, .inl l2, ?_⟩
    have := unhide HS2
    rw [unhide HS3]
    simp only [sgn]
    simp
    omega

/-- k lists of at most M limbs. -/
def Lsts (w : World) (M k : Nat) (va : Nat → Value) (na : Nat → Nat) (fa : Nat → Nat → Nat) : Prop :=
  ∀ j, j < k → Sl .u32 w (va j) (na j) (fa j) ∧ (∀ i, i < na j → fa j i < 4294967296) ∧ na j ≤ M
theorem Lsts.up {w w' : World} {M k : Nat} {va : Nat → Value} {na : Nat → Nat} {fa : Nat → Nat → Nat} (h : Lsts w M k va na fa) (u : Up w w') : Lsts w' M k va na fa :=
  fun j hj => ⟨(h j hj).1.up u, (h j hj).2⟩
def updA {α : Type} (f : Nat → α) (i : Nat) (x : α) : Nat → α := fun j => if j = i then x else f j
theorem updA_same {α : Type} (f : Nat → α) (i : Nat) (x : α) : updA f i x i = x := by simp [updA]
theorem updA_other {α : Type} {f : Nat → α} {i j : Nat} {x : α} (h : j ≠ i) : updA f i x j = f j := by simp [updA, h]
theorem Lsts.push {w : World} {M k n : Nat} {va : Nat → Value} {na : Nat → Nat} {fa : Nat → Nat → Nat} {v : Value} {f : Nat → Nat} (h : Lsts w M k va na fa) (hv : Sl .u32 w v n f) (hd : ∀ i, i < n → f i < 4294967296) (hn : n ≤ M) :
    Lsts w M (k + 1) (updA va k v) (updA na k n) (updA fa k f) := by
  intro j hj
  by_cases e : j = k
  · subst e
    rw [updA_same, updA_same, updA_same]
    exact ⟨hv, hd, hn⟩
  · rw [updA_other e, updA_other e, updA_other e]
    exact h j (by omega)
theorem ownsRow_up {w w' : World} {base : Nat} {E : TypeId} {size : Nat} {v : Value} {n : Nat} {xs : List Value} (h : w.ownsRow base E size v n xs) (u : Up w w') : w'.ownsRow base E size v n xs :=
  h.kept (row := none) ⟨u.os, u.tape, u.output, u.size, fun k hk _ => u.block k hk⟩ (by
    cases hv : v.ownBlock with
    | none => exact .inl rfl
    | some g => exact .inr (by simp))
theorem total_congr {na na' : Nat → Nat} {fa fa' : Nat → Nat → Nat} {k : Nat} (h : ∀ j, j < k → na j = na' j ∧ fa j = fa' j) : total na fa k = total na' fa' k := by
  induction k with
  | zero => rfl
  | succ k ih =>
    show total na fa k + _ = total na' fa' k + _
    rw [ih (fun j hj => h j (by omega)), (h k (by omega)).1, (h k (by omega)).2]
theorem total_push {na : Nat → Nat} {fa : Nat → Nat → Nat} {k n : Nat} {f : Nat → Nat} : total (updA na k n) (updA fa k f) (k + 1) = total na fa k + num 4294967296 f n := by
  show total (updA na k n) (updA fa k f) k + num 4294967296 (updA fa k f k) (updA na k n k) = _
  rw [updA_same, updA_same, total_congr (na' := na) (fa' := fa) (fun j hj => ⟨updA_other (by omega), updA_other (by omega)⟩)]
theorem valsOf_push (va : Nat → Value) (k : Nat) (v : Value) : valsOf va k ++ [v] = valsOf (updA va k v) (k + 1) := by
  apply List.ext_getElem?
  intro i
  rcases Nat.lt_trichotomy i k with h | h | h
  · rw [List.getElem?_append_left (by rw [valsOf_length]; exact h), valsOf_get _ _ _ h, valsOf_get _ _ _ (by omega), updA_other (by omega)]
  · subst h
    rw [List.getElem?_append_right (by rw [valsOf_length]; exact Nat.le_refl _), valsOf_length, valsOf_get _ _ _ (by omega), updA_same]
    simp
  · rw [List.getElem?_eq_none (by rw [List.length_append, valsOf_length]; simp; omega), List.getElem?_eq_none (by rw [valsOf_length]; omega)]

theorem Rds.of_row {w : World} {base : Nat} {v : Value} {k : Nat} {va : Nat → Value} (h : w.ownsRow base 24 1 v k (valsOf va k)) : ∃ mo cap, v = .slice mo k cap ∧ (mo = none → cap = 0) ∧ Rds w mo k va := by
  rcases id h.2 with ⟨rfl, rfl⟩ | ⟨g, cap, cur, rfl, h1, h2, h3, h4, h5, h6⟩
  · exact ⟨none, 0, rfl, fun _ => rfl, .inl rfl⟩
  · exact ⟨some ⟨g, 0, none⟩, cap, rfl, (fun e => by cases e), .inr ⟨g, 0, rfl, fun i hi => by rw [Nat.zero_add, h.cellAt i (by omega), valsOf_get va k i hi]⟩⟩

set_option maxRecDepth 4000 in
set_option maxHeartbeats 1000000 in
theorem total_any (base : Nat) (v : Value) (k M : Nat) (va : Nat → Value) (na : Nat → Nat) (fa : Nat → Nat → Nat) (w : World) (hrow : w.ownsRow base 24 1 v k (valsOf va k)) (hl : Lsts w M k va na fa) (hM : 4 * (M + 1) ≤ 281474976710656) (hk : k + 2 ≤ 4294967296) :
    Calls Tryd.prog 76 #[v] w fun e w' => ∃ v' n' f', e = .returned v' ∧ Own .u32 64 w' w.heap.size v' n' f' ∧ Up w w' ∧ Can 4294967296 f' n' ∧ n' ≤ M + 1 ∧ num 4294967296 f' n' = total na fa k := by
  obtain ⟨mo, cap, rfl, hmo, hr⟩ := Rds.of_row hrow
  have hnil : Sl .u32 w (.slice none 0 0) 0 (fun _ => 0) := ⟨none, 0, rfl, Nat.le_refl _, by omega, fun _ => rfl, .inl rfl⟩
  clear hrow
  go_enter Tryd.func76, Tryd.ntmps76
  go_wp2_with fail
  refine (add_any _ _ 0 0 k cap M (fun _ => 0) (fun _ => 0) mo va na fa w hnil hnil hr (fun i hi => (hl i hi).1) (fun i hi => by omega) (fun i hi => by omega) (fun i hi => (hl i hi).2.1) (by omega) (by omega) (fun i hi => (hl i hi).2.2) hM hk).mono ?_
  rintro e w1 ⟨v1, n1, f1, rfl, o1, u1, c1, l1, s1⟩
  have HS := hide s1
  clear s1
  go_wp2_with fail
  go_ret
  exact ⟨v1, n1, f1, rfl, o1, u1, c1, l1, by rw [unhide HS]; simp [num]⟩

/-- k numbers that are worked at, read from an address on. -/
def RdW (w : World) (mo : Option Addr) (k : Nat) (vs : Nat → Value) (bs : Nat → Bool) : Prop :=
  k = 0 ∨ ∃ b off, mo = some ⟨b, off, none⟩ ∧ ∀ i, i < k → w.cell? ⟨b, off + i * 2, none⟩ = some (vs i) ∧ w.cell? ⟨b, off + i * 2 + 1, none⟩ = some (.bool (bs i))
/-- The sum of whole numbers. -/
def sumZ (g : Nat → Int) : Nat → Int
  | 0 => 0
  | k + 1 => sumZ g k + g k
def Sep (a b : Value) : Prop := ∀ g, a.ownBlock = some g → b.ownBlock ≠ some g
theorem sep_nil : Sep (.slice none 0 0) (.slice none 0 0) := fun g h => by cases h
theorem cells_at {w : World} {g : Nat} (a : Value) (E : TypeId) (hg : g = w.heap.size) : ∀ j u, [a][j]? = some u → (w.alloc (.cells #[a] E)).cell? ((⟨g, 0, none⟩ : Addr).add j) = some u := by
  subst hg
  exact cells_one w a E
theorem one_slice (ao : Option Addr) (n cap : Nat) : ∀ u ∈ [Value.slice ao n cap], u.oneCell' = true := by
  intro u hu
  simp only [List.mem_cons, List.not_mem_nil, or_false] at hu
  subst hu
  rfl
theorem Sep.comm {a b : Value} (h : Sep a b) : Sep b a := fun g h1 h2 => h g h2 h1
theorem Sep.kept {a b : Value} (h : Sep a b) : b.ownBlock = none ∨ b.ownBlock ≠ a.ownBlock := by
  cases hb : b.ownBlock with
  | none => exact .inl rfl
  | some g => exact .inr (fun e => h g e.symm hb)
theorem Sep.push {a a' b : Value} {N : Nat} (h : Sep a b) (ha : a'.ownBlock = a.ownBlock ∨ a'.ownBlock = some N) (hb : ∀ g, b.ownBlock = some g → g < N) : Sep a' b := by
  intro g h1 h2
  rcases ha with e | e
  · exact h g (e ▸ h1) h2
  · rw [e] at h1
    cases h1
    exact absurd (hb _ h2) (by omega)

set_option maxRecDepth 4000 in
set_option maxHeartbeats 2000000 in
theorem sum_any (mo : Option Addr) (k capm M : Nat) (vs : Nat → Value) (bs : Nat → Bool) (ns : Nat → Nat) (fs : Nat → Nat → Nat) (w : World) (hm : RdW w mo k vs bs) (hl : Lsts w M k vs ns fs) (hcap : k ≤ capm) (hM : 4 * (M + 1) ≤ 281474976710656) (hk : k + 2 ≤ 4294967296) :
    Calls Tryd.prog 48 #[.slice mo k capm] w fun e w' => ∃ a b n f, e = .returned a ∧ OwnW w' w.heap.size a b n f ∧ Up w w' ∧ CanZ b f n ∧ n ≤ M + 1 ∧ sgn b (num 4294967296 f n) = sumZ (fun i => sgn (bs i) (num 4294967296 (fs i) (ns i))) k := by
  obtain ⟨i, hi, hz0, hz1, hz2⟩ := info_parts infoS
  have HL := hide hl
  clear hl
  go_enter Tryd.func48, Tryd.ntmps48
  go_wp2_with fail
  go_loopw [3, 4, 9] (fun t3 t4 t9 wr => ∃ (j kA kB : Nat) (va vb : Nat → Value) (na nb : Nat → Nat) (fa fb : Nat → Nat → Nat), j ≤ k ∧ t9 = .int .i64 j ∧ wr.ownsRow (w.heap.size + 1) 24 1 t3 kA (valsOf va kA) ∧ wr.ownsRow (w.heap.size + 1) 24 1 t4 kB (valsOf vb kB) ∧ Sep t3 t4 ∧ kA + kB = j ∧
    Up (w.alloc (.cells #[.slice none 0 0, .bool false] 51)) wr ∧ Hid (Lsts w M kA va na fa ∧ Lsts w M kB vb nb fb ∧ (total na fa kA : Int) - total nb fb kB = sumZ (fun i => sgn (bs i) (num 4294967296 (fs i) (ns i))) j)) (fun _ _ t9 _ => k - (intOf t9).toNat)
  case atStart => exact ⟨0, 0, 0, fun _ => .slice none 0 0, fun _ => .slice none 0 0, fun _ => 0, fun _ => 0, fun _ _ => 0, fun _ _ => 0, Nat.zero_le _, rfl, World.ownsRow_nil _ _ _ _, World.ownsRow_nil _ _ _ _, sep_nil, rfl, Up.refl _, hide ⟨fun j hj => by omega, fun j hj => by omega, rfl⟩⟩
  case round =>
    obtain ⟨j, kA, kB, va, vb, na, nb, fa, fb, hj, rfl, rA, rB, sep, hkk, up, HH⟩ := hrel
    have hsz := Below.size up
    simp at hsz
    by_cases hjk : j < k
    · rcases hm with hm | ⟨b, off, rfl, hc⟩
      · omega
      obtain ⟨sj, dj, nj⟩ := unhide HL j hjk
      obtain ⟨aoj, capj, ej, -⟩ := id sj
      have hx0 := (hc j hjk).1
      have hx1 := (hc j hjk).2
      have hbl : b < w.heap.size := World.block_lt_of_cell? w _ hx0
      rw [ej] at hx0 sj
      have hc0 : wr.cell? ⟨b, off + j * 2, none⟩ = some (.slice aoj (ns j) capj) := (Below.cell up (p := ⟨b, off + j * 2, none⟩) (by show b < _; simp; omega)).trans ((Below.cell (up_alloc w _) (p := ⟨b, off + j * 2, none⟩) hbl).trans hx0)
      have hc1 : wr.cell? ⟨b, off + j * 2 + 1, none⟩ = some (.bool (bs j)) := (Below.cell up (p := ⟨b, off + j * 2 + 1, none⟩) (by show b < _; simp; omega)).trans ((Below.cell (up_alloc w _) (p := ⟨b, off + j * 2 + 1, none⟩) hbl).trans hx1)
      have HSJ := hide (And.intro sj (And.intro dj nj))
      clear hc hx0 hx1 ej sj dj nj
      generalize hnj : ns j = n at *
      have HNJ := hide hnj
      clear hnj
      cases hbj : bs j
      · rw [hbj] at hc1
        go_wp2_with (at_builtin; refine wpList_append_own_at _ rfl _ _ 83 rfl (w.heap.size + 1) 24 i (.slice none 0 0) 1 24 Tryd.underlying83 hi hz0 hz1 hz2 rfl (by decide) _ _ _ rfl ((rA.alloc _).alloc _) ⟨wr.heap.size + 1, 0, none⟩ 1 1 [.slice aoj n capj] rfl rfl (cells_at _ _ (by simp)) (one_slice _ _ _) (by unfold maxLen; omega) (by omega) (by simp; omega) ?_; intro v4 w4 hown4 hgrow4 hx4 hat4)
        rw [valsOf_push] at hown4
        have rB4 := ((rB.alloc _).alloc _).kept hgrow4 sep.kept
        have sep4 : Sep v4 u4 := sep.push hat4 (fun g hg => by have := (rB.lt g hg).2; simp; omega)
        have up4 : Up (w.alloc (.cells #[.slice none 0 0, .bool false] 51)) w4 := (Below.alloc (Below.alloc up (Below.size up) _) (by have := Below.size up; simp at this ⊢; omega) _).grown hgrow4 (by simp; omega) (fun g hg => by have := (rA.lt g hg).1; simp; omega)
        clear hgrow4 hx4 hat4 rA rB sep up
        go_roundw
        case rel =>
          obtain ⟨sj, dj, nj⟩ := unhide HSJ
          obtain ⟨lA, lB, hs⟩ := unhide HH
          refine ⟨j + 1, kA + 1, kB, _, vb, _, nb, _, fb, by omega, by go_num, hown4, rB4, sep4, by omega, up4, hide ⟨lA.push sj dj nj, lB, ?_⟩⟩
          rw [total_push]
          show _ = sumZ _ j + sgn (bs j) (num 4294967296 (fs j) (ns j))
          rw [← hs, hbj, unhide HNJ]
          simp only [sgn]
          simp
          omega
        case measure => simp [intOf]; omega
      · rw [hbj] at hc1
        go_wp2_with (at_builtin; refine wpList_append_own_at _ rfl _ _ 83 rfl (w.heap.size + 1) 24 i (.slice none 0 0) 1 24 Tryd.underlying83 hi hz0 hz1 hz2 rfl (by decide) _ _ _ rfl ((rB.alloc _).alloc _) ⟨wr.heap.size + 1, 0, none⟩ 1 1 [.slice aoj n capj] rfl rfl (cells_at _ _ (by simp)) (one_slice _ _ _) (by unfold maxLen; omega) (by omega) (by simp; omega) ?_; intro v4 w4 hown4 hgrow4 hx4 hat4)
        rw [valsOf_push] at hown4
        have rA4 := ((rA.alloc _).alloc _).kept hgrow4 sep.comm.kept
        have sep4 : Sep u3 v4 := (sep.comm.push hat4 (fun g hg => by have := (rA.lt g hg).2; simp; omega)).comm
        have up4 : Up (w.alloc (.cells #[.slice none 0 0, .bool false] 51)) w4 := (Below.alloc (Below.alloc up (Below.size up) _) (by have := Below.size up; simp at this ⊢; omega) _).grown hgrow4 (by simp; omega) (fun g hg => by have := (rB.lt g hg).1; simp; omega)
        clear hgrow4 hx4 hat4 rA rB sep up
        go_roundw
        case rel =>
          obtain ⟨sj, dj, nj⟩ := unhide HSJ
          obtain ⟨lA, lB, hs⟩ := unhide HH
          refine ⟨j + 1, kA, kB + 1, va, _, na, _, fa, _, by omega, by go_num, rA4, hown4, sep4, by omega, up4, hide ⟨lA, lB.push sj dj nj, ?_⟩⟩
          rw [total_push]
          show _ = sumZ _ j + sgn (bs j) (num 4294967296 (fs j) (ns j))
          rw [← hs, hbj, unhide HNJ]
          simp only [sgn]
          simp
          omega
        case measure => simp [intOf]; omega
    · obtain rfl : j = k := by omega
      obtain ⟨lA, lB, hs⟩ := unhide HH
      have HS := hide hs
      have HA := hide lA
      have HB := hide lB
      have hupw : Up w wr := (up_alloc w _).tr up
      clear hs lA lB HH hm
      go_wp2_with fail
      refine (total_any (w.heap.size + 1) _ kA M va na fa _ rA ((unhide HA).up hupw) hM (by omega)).mono ?_
      rintro e w1 ⟨v1, n1, f1, rfl, o1, u1, c1, l1, s1⟩
      have S1 := hide s1
      clear s1
      go_wp2_with fail
      have rB1 : w1.ownsRow (w.heap.size + 1) 24 1 u4 kB (valsOf vb kB) := ownsRow_up rB u1
      refine (total_any (w.heap.size + 1) _ kB M vb nb fb _ rB1 ((unhide HB).up (hupw.tr u1)) hM (by omega)).mono ?_
      rintro e w2 ⟨v2, n2, f2, rfl, o2, u2, c2, l2, s2⟩
      have S2 := hide s2
      clear s2
      go_wp2_with fail
      refine (difference_any _ _ n1 n2 f1 f2 _ (o1.sl.up u2) o2.sl c1.1 c2.1 (by omega) (by omega)).mono ?_
      rintro e w3 ⟨a3, b3, n3, f3, rfl, o3, u3', c3, l3, s3⟩
      have S3 := hide s3
      clear s3
      obtain ⟨v3, rfl, o3⟩ := o3
      obtain ⟨ao3, cap3, rfl, -⟩ := id o3.sl
      obtain ⟨d0, d1, g0, g1, lt, e0, e1⟩ := res2 w.heap.size rfl (((up.tr u1).tr u2).tr u3')
      have hz2' : w.heap.size < w2.heap.size := by have h1 := Below.size u1; have h2 := Below.size u2; omega
      go_wp2_with fail
      refine bodyPost_ret (by simp [results, Tryd.results48, go_sem, e0, e1]; rfl) rfl ?_
      refine ⟨_, b3, n3, f3, rfl, ⟨_, rfl, (o3.set2 hz2').mono (by omega)⟩, Up.set2 (((hupw.tr u1).tr u2).tr u3') (Nat.le_refl _), c3, by omega, ?_⟩
      rw [unhide S3, unhide S1, unhide S2, unhide HS]

end Go.Proofs.YtjbocfhmfidjjaaDoor
