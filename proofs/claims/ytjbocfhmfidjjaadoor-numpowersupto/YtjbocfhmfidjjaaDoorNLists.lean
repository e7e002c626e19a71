/-
  What is proved here: tandemlaw02.all copies numbers one behind the other, into new memory.
-/
import Derived.Test.YtjbocfhmfidjjaaDoorNCon
import Derived.Maps.AppendAt
import Derived.Deep.Slices
namespace Go.Proofs.YtjbocfhmfidjjaaDoor
open Go Go.RowKit

theorem infoNUM : (Tryd.prog.info? 26).map (fun i => (i.zero, i.size, i.bytes)) = some (some (.agg #[.bool false, .slice none 0 0]), 2, 32) := by kernel_rfl
/-- The cells of a row of numbers. -/
def cnum (bb : Nat → Bool) (va : Nat → Value) (i : Nat) : Value := if i % 2 = 0 then .bool (bb (i / 2)) else va (i / 2)
theorem cnum_even (bb : Nat → Bool) (va : Nat → Value) (i : Nat) : cnum bb va (i * 2) = .bool (bb i) := by
  unfold cnum
  rw [if_pos (by omega), show i * 2 / 2 = i from by omega]
theorem cnum_odd (bb : Nat → Bool) (va : Nat → Value) (i : Nat) : cnum bb va (i * 2 + 1) = va i := by
  unfold cnum
  rw [if_neg (by omega), show (i * 2 + 1) / 2 = i from by omega]
theorem valsOf_push2 (C C' : Nat → Value) (n : Nat) (x y : Value) (h : ∀ i, i < n → C' i = C i) (hx : C' n = x) (hy : C' (n + 1) = y) : valsOf C n ++ [x, y] = valsOf C' (n + 2) := by
  have e : valsOf C n = valsOf C' n := by
    unfold valsOf
    exact List.map_congr_left (fun i hi => (h i (List.mem_range.1 hi)).symm)
  rw [e, ← hx, ← hy]
  unfold valsOf
  rw [List.range_succ, List.range_succ]
  simp
theorem cnum_push (bb : Nat → Bool) (va : Nat → Value) (j : Nat) (b : Bool) (v : Value) : valsOf (cnum bb va) (j * 2) ++ [.bool b, v] = valsOf (cnum (updA bb j b) (updA va j v)) ((j + 1) * 2) := by
  rw [show (j + 1) * 2 = j * 2 + 2 from by omega]
  refine valsOf_push2 _ _ _ _ _ (fun i hi => ?_) ?_ ?_
  · unfold cnum
    rw [updA_other (by omega), updA_other (by omega)]
  · rw [cnum_even, updA_same]
  · rw [cnum_odd, updA_same]
theorem Own.blk_lt {k : IntKind} {E : TypeId} {w : World} {base : Nat} {v : Value} {n : Nat} {f : Nat → Nat} (h : Own k E w base v n f) : ∀ g, v.ownBlock = some g → base ≤ g ∧ g < w.heap.size := by
  intro g hg
  rcases h with ⟨rfl, rfl⟩ | ⟨g', cap, rfl, h1, h2, h3⟩
  · cases hg
  · cases hg
    exact ⟨h1, h3.lt⟩
theorem Own.keptN {k : IntKind} {E : TypeId} {w w' : World} {base : Nat} {v : Value} {n : Nat} {f : Nat → Nat} {row : Option Nat} (h : Own k E w base v n f) (hg : w.grownBy w' row) (hne : ∀ g, v.ownBlock = some g → row ≠ some g) : Own k E w' base v n f := by
  rcases h with ⟨rfl, rfl⟩ | ⟨g', cap, rfl, h1, h2, h3⟩
  · exact .inl ⟨rfl, rfl⟩
  · exact .inr ⟨g', cap, rfl, h1, h2, h3.block (hg.block g' h3.lt (fun e => hne g' rfl e.symm))⟩

/-- j copies, each in a block of its own, none in the row that holds them. -/
def NCops (W : World) (base : Nat) (row : Value) (j M : Nat) (va : Nat → Value) (bb : Nat → Bool) (Xs : Nat → Int) : Prop :=
  ∀ i, i < j → ∃ n f, Own .u32 64 W base (va i) n f ∧ (∀ g, (va i).ownBlock = some g → row.ownBlock ≠ some g) ∧ (∀ i, i < n → f i < 4294967296) ∧ n ≤ M ∧ sgn (bb i) (num 4294967296 f n) = Xs i
theorem NCops.push {W w1 W1 w4 : World} {base N : Nat} {row row' v : Value} {j M n : Nat} {f : Nat → Nat} {b : Bool} {va : Nat → Value} {bb : Nat → Bool} {Xs : Nat → Int} (h : NCops W base row j M va bb Xs)
    (hb : base ≤ W.heap.size) (u1 : Up W w1) (ho : Own .u32 64 w1 W.heap.size v n f) (hd : ∀ i, i < n → f i < 4294967296) (hn : n ≤ M) (hs : sgn b (num 4294967296 f n) = Xs j) (hW1 : Up w1 W1) (hg : W1.grownBy w4 row.ownBlock) (hrow : ∀ g, row.ownBlock = some g → g < W.heap.size)
    (hat : row'.ownBlock = row.ownBlock ∨ row'.ownBlock = some N) (hN : N = W1.heap.size) : NCops w4 base row' (j + 1) M (updA va j v) (updA bb j b) Xs := by
  subst hN
  have s1 := Below.size u1
  have s2 := Below.size hW1
  intro i hi
  by_cases e : i = j
  · subst e
    rw [updA_same, updA_same]
    have hlt := ho.blk_lt
    refine ⟨n, f, ((ho.up hW1).keptN hg (fun g h1 h2 => ?_)).mono hb, fun g h1 h2 => ?_, hd, hn, hs⟩
    · have := hlt g h1
      have := hrow g h2
      omega
    · have h3 := hlt g h1
      rcases hat with e | e
      · have := hrow g (e ▸ h2)
        omega
      · rw [e] at h2
        cases h2
        omega
  · rw [updA_other e, updA_other e]
    obtain ⟨n', f', h1, h2, r⟩ := h i (by omega)
    have hlt := h1.blk_lt
    refine ⟨n', f', ((h1.up u1).up hW1).keptN hg (fun g h3 h4 => h2 g h3 h4), fun g h3 h4 => ?_, r⟩
    have h5 := hlt g h3
    rcases hat with e | e
    · exact h2 g h3 (e ▸ h4)
    · rw [e] at h4
      cases h4
      omega

theorem cells_two2 {w : World} {g : Nat} (x y : Value) (E : TypeId) (hg : g = w.heap.size) : ∀ j u, [x, y][j]? = some u → (w.alloc (.cells #[x, y] E)).cell? ((⟨g, 0, none⟩ : Addr).add j) = some u := by
  subst hg
  intro j u hj
  rw [Addr.add_lit, Nat.zero_add, cell_of_row _ _ _ _ _ _ (heap_alloc_new w _)]
  match j, hj with
  | 0, hj => simpa using hj
  | 1, hj => simpa using hj
theorem one_num (b : Bool) (ao : Option Addr) (n cap : Nat) : ∀ u ∈ [Value.bool b, Value.slice ao n cap], u.oneCell' = true := by
  intro u hu
  simp only [List.mem_cons, List.not_mem_nil, or_false] at hu
  rcases hu with rfl | rfl <;> rfl

theorem row_form {w : World} {base j : Nat} {v : Value} {xs : List Value} (h : w.ownsRow base 26 2 v j xs) : ∃ mo cap, v = .slice mo j cap := by
  rcases h.2 with ⟨e, rfl⟩ | ⟨g, cp, cur, e, -⟩
  · exact ⟨none, 0, e⟩
  · exact ⟨_, _, e⟩

set_option maxRecDepth 4000 in
set_option maxHeartbeats 4000000 in
theorem all_any (mo : Option Addr) (k cap M : Nat) (vs : Nat → Value) (bs : Nat → Bool) (Xs : Nat → Int) (w : World) (hr : RdN w mo k vs bs) (hs : ∀ j, j < k → RdD (Xs j) M w (.agg #[.bool (bs j), vs j])) (hk : k ≤ 1048576) (hM : M ≤ 1048576) :
    Calls Tryd.prog 18 #[.slice mo k cap] w fun e w' => ∃ mo' cap' vs' bs', e = .returned (.slice mo' k cap') ∧ RdN w' mo' k vs' bs' ∧ (∀ j, j < k → RdD (Xs j) M w' (.agg #[.bool (bs' j), vs' j])) ∧ Up w w' := by
  obtain ⟨i, hi, hz0, hz1, hz2⟩ := info_parts infoNUM
  have HS := hide hs
  clear hs
  go_enter Tryd.func18, Tryd.ntmps18
  go_wp2_with fail
  go_loopw [3, 4] (fun t3 t4 wr => ∃ (j : Nat) (va : Nat → Value) (bb : Nat → Bool), j ≤ k ∧ t4 = .int .i64 j ∧ wr.ownsRow w.heap.size 26 2 t3 j (valsOf (cnum bb va) (j * 2)) ∧ Up w wr ∧ Hid (NCops wr w.heap.size t3 j M va bb Xs)) (fun _ t4 _ => k - (intOf t4).toNat)
  case atStart => exact ⟨0, fun _ => .slice none 0 0, fun _ => false, Nat.zero_le _, rfl, World.ownsRow_nil _ _ _ _, Up.refl _, hide (fun i hi => by omega)⟩
  case round =>
    obtain ⟨j, va, bb, hj, rfl, row, up, HC⟩ := hrel
    have hszr := Below.size up
    by_cases hjk : j < k
    · rcases hr with hr | ⟨bl, off, rfl, hc⟩
      · omega
      have HSJ := hide (unhide HS j hjk)
      have hx0 := (hc j hjk).1
      have hx1 := (hc j hjk).2
      obtain ⟨bj, aoj, nj, capj, ej⟩ := (unhide HSJ).agg
      have ej' : bs j = bj ∧ vs j = .slice aoj nj capj := by
        cases hvs : vs j
        all_goals simp_all
      rw [ej'.1, ej'.2] at HSJ
      rw [ej'.1] at hx0
      rw [ej'.2] at hx1
      have hbl : bl < w.heap.size := World.block_lt_of_cell? w _ hx0
      have hc0 : wr.cell? ⟨bl, off + j * 2, none⟩ = some (.bool bj) := (Below.cell up (p := ⟨bl, off + j * 2, none⟩) hbl).trans hx0
      have hc1 : wr.cell? ⟨bl, off + j * 2 + 1, none⟩ = some (.slice aoj nj capj) := (Below.cell up (p := ⟨bl, off + j * 2 + 1, none⟩) hbl).trans hx1
      clear hc ej ej' hx0 hx1
      go_wp2_with fail
      refine (c_rd ((unhide HSJ).up up) (by omega)).mono ?_
      rintro e w1 ⟨v1, rfl, ⟨b1, n1, f1, ⟨u, rfl, o1⟩, d1, l1, s1⟩, u1⟩
      obtain ⟨ao1, cap1, rfl, -⟩ := id o1.sl
      have row1 := ownsRow_up row u1
      have hsz1 := Below.size u1
      have HO := hide (And.intro o1 (And.intro d1 (And.intro l1 s1)))
      clear o1 d1 l1 s1
      go_wp2_with (at_builtin; refine wpList_append_own_at _ rfl _ _ 22 rfl w.heap.size 26 i (.agg #[.bool false, .slice none 0 0]) 2 32 Tryd.underlying22 hi hz0 hz1 hz2 rfl (by decide) _ _ _ rfl (row1.alloc _) ⟨w1.heap.size, 0, none⟩ 1 1 [.bool b1, .slice ao1 n1 cap1] rfl rfl (cells_two2 _ _ _ rfl) (one_num _ _ _ _) (by unfold maxLen; omega) (by omega) (by simp; omega) ?_; intro v4 w4 hown4 hgrow4 hx4 hat4)
      rw [cnum_push] at hown4
      have hup4 : Up w w4 := (Below.alloc (up.tr u1) (by omega) _).grown hgrow4 (by simp; omega) (fun g hg => (row1.lt g hg).1)
      have HC4 := hide (NCops.push (unhide HC) hszr u1 (unhide HO).1.1 (unhide HO).2.1 (unhide HO).2.2.1 (unhide HO).2.2.2 (below_alloc w1 _) hgrow4 (fun g hg => (row.lt g hg).2) hat4 rfl)
      clear HC row row1 hgrow4 hx4 hat4 up u1
      go_roundw
      case rel => exact ⟨j + 1, _, _, by omega, by go_num, hown4, hup4, HC4⟩
      case measure => simp [intOf]; omega
    · obtain rfl : j = k := by omega
      have HR := hide row
      have HUP := hide up
      obtain ⟨mo', cap', rfl⟩ := row_form row
      clear row up hr
      go_wp2_with fail
      go_ret
      have row := unhide HR
      refine ⟨mo', cap', va, bb, rfl, ?_, fun i hi => ?_, unhide HUP⟩
      · rcases id row.2 with ⟨h, rfl⟩ | ⟨g, cp, cur, h, -⟩
        · exact .inl rfl
        · cases h
          refine .inr ⟨g, 0, rfl, fun i hi => ?_⟩
          rw [Nat.zero_add, row.cellAt (i * 2) (by omega), row.cellAt (i * 2 + 1) (by omega), valsOf_get _ _ _ (by omega), valsOf_get _ _ _ (by omega), cnum_even, cnum_odd]
          exact ⟨rfl, rfl⟩
      · obtain ⟨n, f, o, -, d, l, s⟩ := unhide HC i hi
        exact ⟨bb i, n, f, ⟨_, rfl, o.sl⟩, d, l, s⟩

theorem RdN.upN {w w' : World} {mo : Option Addr} {k : Nat} {vs : Nat → Value} {bs : Nat → Bool} (h : RdN w mo k vs bs) (u : Up w w') : RdN w' mo k vs bs := by
  rcases h with h | ⟨b, off, rfl, hc⟩
  · exact .inl h
  · refine .inr ⟨b, off, rfl, fun i hi => ?_⟩
    have hx := hc i hi
    have hb : b < w.heap.size := World.block_lt_of_cell? w _ hx.1
    exact ⟨(Below.cell u (p := ⟨b, off + i * 2, none⟩) hb).trans hx.1, (Below.cell u (p := ⟨b, off + i * 2 + 1, none⟩) hb).trans hx.2⟩
/-- The limbs of readable numbers, as functions. -/
theorem lsts_rd {w : World} {k M : Nat} {vs : Nat → Value} {bs : Nat → Bool} {Xs : Nat → Int} (h : ∀ j, j < k → RdD (Xs j) M w (.agg #[.bool (bs j), vs j])) :
    ∃ ns fs, Lsts w M k vs ns fs ∧ ∀ j, j < k → sgn (bs j) (num 4294967296 (fs j) (ns j)) = Xs j := by
  have hall : ∀ j, j < k → ∃ y : Nat × (Nat → Nat), Sl .u32 w (vs j) y.1 y.2 ∧ (∀ i, i < y.1 → y.2 i < 4294967296) ∧ y.1 ≤ M ∧ sgn (bs j) (num 4294967296 y.2 y.1) = Xs j := fun j hj => by
    obtain ⟨b, n, f, ⟨v, e, s⟩, d, l, x⟩ := h j hj
    cases e
    exact ⟨(n, f), s, d, l, x⟩
  obtain ⟨Y, hY⟩ := Go.Deep.choose_lt hall
  exact ⟨fun j => (Y j).1, fun j => (Y j).2, fun j hj => ⟨(hY j hj).1, (hY j hj).2.1, (hY j hj).2.2.1⟩, fun j hj => (hY j hj).2.2.2⟩

end Go.Proofs.YtjbocfhmfidjjaaDoor
