/-
  What is proved here: find (the document's table, tandemref14).
-/
import Derived.Test.YtcefeclgehijpaaFRefP
namespace Go.Proofs.Ytcefeclgehijpaa
open Go Go.RowKit

theorem info_fd : ∃ i, Try.prog.info? 37 = some i ∧ i.zero = some (.agg #[.int .i64 0, .int .i64 0, .int .i64 0, .int .i64 0]) ∧ i.size = 4 ∧ i.bytes = 32 := by
  refine info_parts (P := Try.prog) ?_
  kernel_rfl
theorem info_int : ∃ i, Try.prog.info? 3 = some i ∧ i.zero = some (.int .i64 0) ∧ i.size = 1 ∧ i.bytes = 8 := by
  refine info_parts (P := Try.prog) ?_
  kernel_rfl
theorem row_shape {w : World} {base n : Nat} {E : TypeId} {s : Nat} {v : Value} {xs : List Value} (h : w.ownsRow base E s v n xs) : ∃ ao cap, v = .slice ao n cap := by
  obtain ⟨-, ⟨rfl, rfl⟩ | ⟨g, cap, cur, rfl, -⟩⟩ := h
  · exact ⟨none, 0, rfl⟩
  · exact ⟨_, cap, rfl⟩
theorem row_ne {w : World} {base n k : Nat} {E E' : TypeId} {s : Nat} {v : Value} {xs : List Value} {cs : Array Value} (h : w.ownsRow base E s v n xs) (hk : w.heap[k]? = some (.cells cs E' (0, 0))) (hE : E ≠ E') : some k ≠ v.ownBlock := by
  intro e
  obtain ⟨-, ⟨rfl, -⟩ | ⟨g, cap, cur, rfl, hg, hb, -⟩⟩ := h
  · cases e
  · have e2 : k = g := by simpa [Value.ownBlock] using e
    subst e2
    rw [hk] at hb
    simp at hb
    exact hE hb.2.symm

theorem enc_cell4 {w : World} {b : Nat} {f : Fd} (h : FB w b f) (j : Nat) (u : Value) (hj : ([.int .i64 f.p, .int .i64 f.c, .int .i64 f.m, .int .i64 f.k] : List Value)[j]? = some u) : w.cell? ((⟨b, 0, none⟩ : Addr).add j) = some u := by
  have hl : j < 4 := (List.getElem?_eq_some_iff.1 hj).1
  rcases (show j = 0 ∨ j = 1 ∨ j = 2 ∨ j = 3 by omega) with rfl | rfl | rfl | rfl
  · cases hj; exact h.k0
  · cases hj; exact h.k1
  · cases hj; exact h.k2
  · cases hj; exact h.k3

/-- The block of a table of the document's. -/
def TBk (w : World) (b : Nat) (u v : Value) : Prop := w.heap[b]? = some (.cells #[u, v] 29 (0, 0))
theorem TBk.k0 {w : World} {b : Nat} {u v : Value} (h : TBk w b u v) : w.cell? ⟨b, 0, none⟩ = some u := by rw [cell_of_row w b 0 _ _ _ h]; rfl
theorem TBk.k1 {w : World} {b : Nat} {u v : Value} (h : TBk w b u v) : w.cell? ⟨b, 1, none⟩ = some v := by rw [cell_of_row w b 1 _ _ _ h]; rfl
theorem TBk.fz {w : World} {b : Nat} {u v : Value} (h : TBk w b u v) (i : Nat) : w.frozen? ⟨b, i, none⟩ = false := frozen_of_row _ _ _ _ _ h
theorem TBk.s0 {w : World} {b : Nat} {u v : Value} (h : TBk w b u v) (x : Value) : TBk (w.setCell ⟨b, 0, none⟩ x) b x v := (heap_setCell_same w b 0 _ _ _ h).trans rfl
theorem TBk.s1 {w : World} {b : Nat} {u v : Value} (h : TBk w b u v) (x : Value) : TBk (w.setCell ⟨b, 1, none⟩ x) b u x := (heap_setCell_same w b 1 _ _ _ h).trans rfl

theorem one4 {p c m k : Int} : ∀ u ∈ ([.int .i64 p, .int .i64 c, .int .i64 m, .int .i64 k] : List Value), u.oneCell' = true := by
  intro u hu
  simp at hu
  rcases hu with rfl | rfl | rfl | rfl <;> rfl
theorem one1 {p : Int} : ∀ u ∈ ([.int .i64 p] : List Value), u.oneCell' = true := by
  intro u hu
  simp at hu
  subst hu
  rfl
theorem enc_cell1 {w : World} {b : Nat} {x : Value} {ty : TypeId} (h : w.heap[b]? = some (.cells #[x] ty (0, 0))) (j : Nat) (u : Value) (hj : ([x] : List Value)[j]? = some u) : w.cell? ((⟨b, 0, none⟩ : Addr).add j) = some u := by
  have hl : j < 1 := (List.getElem?_eq_some_iff.1 hj).1
  obtain rfl : j = 0 := by omega
  cases hj
  rw [Addr.add_lit, cell_of_row w b _ _ _ _ h]
  rfl
/-- Half way: the feed is there, its count not yet. -/
structure RH (w : World) (base b : Nat) (M : List PM) (x : PM) (u v : Value) : Prop where
  bb : base ≤ b
  tb : TBk w b u v
  fs : w.ownsRow base 37 4 u (M.length + 1) (rowM (M ++ [x]))
  cs : w.ownsRow base 3 1 v M.length (rowC M)
theorem set_keep {w : World} {base n b i : Nat} {E : TypeId} {s : Nat} {v : Value} {xs : List Value} (h : w.ownsRow base E s v n xs) (hb : some b ≠ v.ownBlock) (x : Value) : (w.setCell ⟨b, i, none⟩ x).ownsRow base E s v n xs :=
  ownsRow_keep h fun k hk => heap_setCell_other w ⟨b, i, none⟩ k x (fun e => hb (by rw [hk]; simp at e; rw [e]))
theorem half_of {w w5 : World} {base b : Nat} {M : List PM} {x : PM} {u v v5 : Value} {A : Obj} (h : RT w base b M u v) (HO : w5.ownsRow base 37 4 v5 (M.length + 1) (rowM (M ++ [x]))) (HG : (w.alloc A).grownBy w5 u.ownBlock) :
    RH (w5.setCell ⟨b, 0, none⟩ v5) base b M x v5 v ∧ Fr (RS base w) w (w5.setCell ⟨b, 0, none⟩ v5) := by
  have hbl := lt_of_block h.tb
  have hne : some b ≠ u.ownBlock := row_ne h.fs h.tb (by decide)
  have b5 : TBk w5 b u v := (HG.block b (by rw [World.size_alloc]; omega) hne).trans ((heap_alloc_old _ _ hbl).trans h.tb)
  have F0 : Fr (RS base w) w (w.alloc A) := (Fr.refl _ _).alloc _
  have F5 : Fr (RS base w) w w5 := F0.grow HG (fun k _ e => h.rsu e)
  have hcs : w5.ownsRow base 3 1 v M.length (rowC M) := by
    refine ownsRow_keep h.cs (fun k hk => ?_)
    have hk2 := h.cs.lt k hk
    refine (HG.block k (by rw [World.size_alloc]; omega) ?_).trans (heap_alloc_old _ _ hk2.2)
    obtain ⟨-, ⟨e, -⟩ | ⟨g, cap, cur, e, hg, hb, -⟩⟩ := h.cs
    · rw [e] at hk; cases hk
    · have e2 : g = k := by rw [e] at hk; simpa [Value.ownBlock] using hk
      subst e2
      exact row_ne h.fs hb (by decide)
  exact ⟨⟨h.bb, b5.s0 v5, set_keep HO (row_ne HO b5 (by decide)) _, set_keep hcs (row_ne hcs b5 (by decide)) _⟩, F5.setCell (fun _ => h.rsb) _ _⟩
theorem RH.rsb {w : World} {base b : Nat} {M : List PM} {x : PM} {u v : Value} (h : RH w base b M x u v) : RS base w b := ⟨h.bb, _, _, h.tb, .inl rfl⟩
theorem full_of {w w8 : World} {base b : Nat} {M : List PM} {x : PM} {u v v8 : Value} {A : Obj} (h : RH w base b M x u v) (HO : w8.ownsRow base 3 1 v8 (M.length + 1) (rowC (M ++ [x]))) (HG : (w.alloc A).grownBy w8 v.ownBlock) :
    RT (w8.setCell ⟨b, 1, none⟩ v8) base b (M ++ [x]) u v8 ∧ Fr (RS base w) w (w8.setCell ⟨b, 1, none⟩ v8) := by
  have hbl := lt_of_block h.tb
  have hne : some b ≠ v.ownBlock := row_ne h.cs h.tb (by decide)
  have b5 : TBk w8 b u v := (HG.block b (by rw [World.size_alloc]; omega) hne).trans ((heap_alloc_old _ _ hbl).trans h.tb)
  have F0 : Fr (RS base w) w (w.alloc A) := (Fr.refl _ _).alloc _
  have F5 : Fr (RS base w) w w8 := F0.grow HG (fun k _ e => rs_row h.cs (.inr rfl) e)
  have hl : (M ++ [x]).length = M.length + 1 := by simp
  have hfs : w8.ownsRow base 37 4 u (M ++ [x]).length (rowM (M ++ [x])) := by
    rw [hl]
    refine ownsRow_keep h.fs (fun k hk => ?_)
    have hk2 := h.fs.lt k hk
    refine (HG.block k (by rw [World.size_alloc]; omega) ?_).trans (heap_alloc_old _ _ hk2.2)
    obtain ⟨-, ⟨e, -⟩ | ⟨g, cap, cur, e, hg, hb, -⟩⟩ := h.fs
    · rw [e] at hk; cases hk
    · have e2 : g = k := by rw [e] at hk; simpa [Value.ownBlock] using hk
      subst e2
      exact row_ne h.cs hb (by decide)
  exact ⟨⟨h.bb, b5.s1 v8, set_keep hfs (row_ne hfs b5 (by decide)) _, by rw [hl]; exact set_keep HO (row_ne HO b5 (by decide)) _⟩, F5.setCell (fun _ => h.rsb) _ _⟩

set_option maxRecDepth 20000 in
set_option maxHeartbeats 4000000 in
theorem find_any (w : World) (base b : Nat) (M : List PM) (u v : Value) (h : RT w base b M u v) (p c : Int) (hM : (M.length + 1) * 32 ≤ 140737488355328) :
    Calls Try.prog 25 #[.pointer (some ⟨b, 0, none⟩), .int .i64 p, .int .i64 c] w fun e w' => e = .returned (.int .i64 (ixS p c M : Nat)) ∧ RA w w' base b (fin p c M) := by
  obtain ⟨i, hi, hz0, hz1, hz2⟩ := info_fd
  obtain ⟨i', hi', hz0', hz1', hz2'⟩ := info_int
  have HT := hide h
  obtain ⟨ao, cap, rfl⟩ := row_shape h.fs
  have c0 := h.c0
  have hbl := lt_of_block h.tb
  have hbs : base ≤ w.heap.size := by have := h.bb; omega
  clear h
  go_enter Try.func25, Try.ntmps25
  go_wp2_with fail
  go_loopw [7] (fun x wr => wr = w ∧ ∃ i : Nat, x = .int .i64 (i : Int) ∧ i ≤ M.length ∧ ∀ j, j < i → ∀ y, M[j]? = some y → ¬ (p = y.p ∧ c = y.c)) (fun x _ => M.length - (intOf x).toNat)
  case atStart => exact ⟨rfl, 0, rfl, Nat.zero_le _, fun j hj => by omega⟩
  case round =>
    obtain ⟨rfl, j, rfl, hj, hne⟩ := hrel
    by_cases hjl : j < M.length
    · have hjI : (j : Int) < (M.length : Int) := by omega
      obtain ⟨x, hx⟩ : ∃ x, M[j]? = some x := ⟨_, List.getElem?_eq_getElem hjl⟩
      obtain ⟨g, cap2, g', cap', e1, -, q0, q1, -, -, -, hml⟩ := HT.out.at hx
      cases e1
      by_cases h1 : x.p = p
      · by_cases h2 : x.c = c
        · subst h1 h2
          obtain ⟨e1, e2⟩ := ix_at hne hx ⟨rfl, rfl⟩
          have E1 := hide e1
          have E2 := hide e2
          clear hne e1 e2
          go_wp2_with fail
          go_ret
          rw [E1.out, E2.out]
          exact ⟨rfl, _, _, HT.out, Fr.refl _ _⟩
        · subst h1
          have HNE := hide hne
          clear hne
          go_wp2_with fail
          refine ⟨⟨trivial, j + 1, by go_num, hjl, fun k hk y hy => ?_⟩, by simp [intOf]; omega⟩
          by_cases e : k = j
          · subst e
            rw [hx] at hy
            cases hy
            exact fun e => h2 e.2.symm
          · exact HNE.out k (by omega) y hy
      · have HNE := hide hne
        clear hne
        go_wp2_with fail
        refine ⟨⟨trivial, j + 1, by go_num, hjl, fun k hk y hy => ?_⟩, by simp [intOf]; omega⟩
        by_cases e : k = j
        · subst e
          rw [hx] at hy
          cases hy
          exact fun e => h1 e.1.symm
        · exact HNE.out k (by omega) y hy
    · have e : j = M.length := by omega
      subst e
      obtain ⟨e1, e2⟩ := ix_end hne
      have E1 := hide e1
      have E2 := hide e2
      have hjI : ¬ ((M.length : Int) < (M.length : Int)) := by omega
      have c1 := HT.out.c1
      clear hne hjl e1 e2
      have hne5 := row_ne HT.out.fs HT.out.tb (by decide)
      go_upto_region 7 with (at_builtin; refine wpList_append_own _ rfl _ _ 26 rfl base 37 i (.agg #[.int .i64 0, .int .i64 0, .int .i64 0, .int .i64 0]) 4 32 Try.underlying26 hi hz0 hz1 hz2 rfl (by decide) _ _ _ rfl (HT.out.fs.alloc _) ⟨wr.heap.size, 0, none⟩ 1 1 [.int .i64 p, .int .i64 c, .int .i64 0, .int .i64 (-1)] rfl rfl (enc_cell4 (f := ⟨p, c, 0, -1⟩) (heap_alloc_new wr _)) one4 (by unfold maxLen; omega) (by omega) (by rw [World.size_alloc]; omega) ?_; intro v5 w5 hown hgrow hnil; obtain ⟨ao5, cap5, rfl⟩ := row_shape hown; have b5 : TBk w5 b (.slice ao M.length cap) v := (hgrow.block b (by rw [World.size_alloc]; omega) hne5).trans ((heap_alloc_old _ _ hbl).trans HT.out.tb); have HO5 := hide hown; have HG5 := hide hgrow; have HB5 := hide b5; have y5 := b5.k0; have z5 := b5.fz 0; clear hown hgrow hnil b5)
      have hh := half_of (x := ⟨p, c, 0, -1, 0⟩) HT.out (by rw [rowM_snoc]; exact HO5.out) HG5.out
      have HH := hide hh.1
      have HF6 := hide hh.2
      clear hh y5 z5 HO5 HG5 HB5 c0 c1
      generalize w5.setCell ⟨b, 0, none⟩ (.slice ao5 (M.length + 1) cap5) = w6 at *
      have c1 := HH.out.tb.k1
      have hne8 := row_ne HH.out.cs HH.out.tb (by decide)
      have hb6 := lt_of_block HH.out.tb
      have hs6 : base ≤ w6.heap.size := by have := HH.out.bb; omega
      go_upto_region 8 with (at_builtin; refine wpList_append_own _ rfl _ _ 27 rfl base 3 i' (.int .i64 0) 1 8 Try.underlying27 hi' hz0' hz1' hz2' rfl (by decide) _ _ _ rfl (HH.out.cs.alloc _) ⟨w6.heap.size, 0, none⟩ 1 1 [.int .i64 0] rfl rfl (enc_cell1 (heap_alloc_new w6 _)) one1 (by unfold maxLen; omega) (by omega) (by rw [World.size_alloc]; omega) ?_; intro v8 w8 hown hgrow hnil; obtain ⟨ao8, cap8, rfl⟩ := row_shape hown; have b8 : TBk w8 b _ _ := (hgrow.block b (by rw [World.size_alloc]; omega) hne8).trans ((heap_alloc_old _ _ hb6).trans HH.out.tb); have HO8 := hide hown; have HG8 := hide hgrow; have y8 := b8.k1; have z8 := b8.fz 1; clear hown hgrow hnil b8)
      have hh := full_of HH.out (by rw [rowC_snoc]; exact HO8.out) HG8.out
      have HH8 := hide hh.1
      have HF8 := hide (HF6.out.rs hh.2)
      clear hh y8 z8 HO8 HG8 HH c1
      generalize w8.setCell ⟨b, 1, none⟩ (.slice ao8 (M.length + 1) cap8) = w9 at *
      have c9 := HH8.out.c0
      go_wp2_with fail
      go_ret
      rw [E1.out, E2.out]
      exact ⟨by congr 2, _, _, HH8.out, HF8.out⟩

end Go.Proofs.Ytcefeclgehijpaa
