/-
  What is proved here: See, Call, Add (the document's table, tandemref14).
-/
import Derived.Test.YtcefeclgehijpaaFRefE
import Derived.Test.YtcefeclgehijpaaFPur0
import Derived.Deep.RegionHeld3
namespace Go.Proofs.Ytcefeclgehijpaa
open Go Go.RowKit

theorem fin_nrm {p c : Int} {M : List PM} (h : NrmS M) : NrmS (fin p c M) := by
  intro x hx
  rcases fin_mem p c M x hx with q | q
  · exact h x q
  · subst q
    exact nrm0
theorem RT.len {w : World} {base b : Nat} {M : List PM} {u v : Value} (h : RT w base b M u v) : w.heap[b]? = some (.cells #[u, v] 29 (0, 0)) := h.tb
theorem RT.gblk {w : World} {base b g cap : Nat} {M : List PM} {v : Value} (h : RT w base b M (.slice (some ⟨g, 0, none⟩) M.length cap) v) : ∃ cur, w.heap[g]? = some (.cells cur 37 (0, 0)) := by
  obtain ⟨-, ⟨e, -⟩ | ⟨g2, cap2, cur, e, -, hb, -⟩⟩ := h.fs
  · cases e
  · cases e
    exact ⟨cur, hb⟩
theorem RT.gne {w : World} {base b g cap : Nat} {M : List PM} {v : Value} (h : RT w base b M (.slice (some ⟨g, 0, none⟩) M.length cap) v) : g ≠ b := by
  obtain ⟨cur, hgb⟩ := h.gblk
  rintro rfl
  rw [h.tb] at hgb
  simp at hgb
/-- A mask is turned. -/
theorem RT.setM {w : World} {base b i g cap : Nat} {M : List PM} {x : PM} {v : Value} (h : RT w base b M (.slice (some ⟨g, 0, none⟩) M.length cap) v) (hx : M[i]? = some x) (m : Int) :
    RT (w.setCell ⟨g, i * 4 + 2, none⟩ (.int .i64 m)) base b (M.set i ⟨x.p, x.c, m, x.k, x.n⟩) (.slice (some ⟨g, 0, none⟩) M.length cap) v ∧ Fr (RS base w) w (w.setCell ⟨g, i * 4 + 2, none⟩ (.int .i64 m)) := by
  have hF : Fr (RS base w) w w := Fr.refl _ _
  obtain ⟨cur, hgb⟩ := h.gblk
  have hne : g ≠ b := by
    rintro rfl
    rw [h.tb] at hgb
    simp at hgb
  have hl : (M.set i ⟨x.p, x.c, m, x.k, x.n⟩).length = M.length := by simp
  refine ⟨⟨h.bb, ?_, ?_, ?_⟩, hF.setCell (fun _ => h.rsu rfl) _ _⟩
  · exact (heap_setCell_other w ⟨g, i * 4 + 2, none⟩ b _ (Ne.symm hne)).trans h.tb
  · rw [hl, rowM_set2 hx]
    exact (h.fs.stored (i * 4 + 2) (.int .i64 m)).1
  · rw [hl, rowC_setN hx]
    exact set_keep h.cs (row_ne h.cs hgb (by decide)) _
/-- A whole feed is laid. -/
theorem RT.set4 {w : World} {base b i g cap : Nat} {M : List PM} {x : PM} {v : Value} (h : RT w base b M (.slice (some ⟨g, 0, none⟩) M.length cap) v) (hx : M[i]? = some x) (p c m k : Int) :
    RT ((((w.setCell ⟨g, i * 4, none⟩ (.int .i64 p)).setCell ⟨g, i * 4 + 1, none⟩ (.int .i64 c)).setCell ⟨g, i * 4 + 2, none⟩ (.int .i64 m)).setCell ⟨g, i * 4 + 3, none⟩ (.int .i64 k)) base b (M.set i ⟨p, c, m, k, x.n⟩) (.slice (some ⟨g, 0, none⟩) M.length cap) v ∧
    Fr (RS base w) w ((((w.setCell ⟨g, i * 4, none⟩ (.int .i64 p)).setCell ⟨g, i * 4 + 1, none⟩ (.int .i64 c)).setCell ⟨g, i * 4 + 2, none⟩ (.int .i64 m)).setCell ⟨g, i * 4 + 3, none⟩ (.int .i64 k)) := by
  have hF : Fr (RS base w) w w := Fr.refl _ _
  obtain ⟨cur, hgb⟩ := h.gblk
  have hne : g ≠ b := by
    rintro rfl
    rw [h.tb] at hgb
    simp at hgb
  have hl : (M.set i ⟨p, c, m, k, x.n⟩).length = M.length := by simp
  have hG : RS base w g := h.rsu rfl
  have o1 : ∀ (W : World) (j : Nat) (z : Value), (W.setCell ⟨g, j, none⟩ z).heap[b]? = W.heap[b]? := fun W j z => heap_setCell_other W ⟨g, j, none⟩ b z (Ne.symm hne)
  have c1 : ∀ {W : World} (j : Nat) (z : Value), W.ownsRow base 3 1 v M.length (rowC M) → (W.heap[g]? = w.heap[g]? ∨ ∃ cur, W.heap[g]? = some (.cells cur 37 (0, 0))) → (W.setCell ⟨g, j, none⟩ z).ownsRow base 3 1 v M.length (rowC M) := by
    intro W j z hW hg
    have : ∃ cur, W.heap[g]? = some (.cells cur 37 (0, 0)) := by
      rcases hg with e | e
      · exact ⟨cur, e.trans hgb⟩
      · exact e
    obtain ⟨cur', hc⟩ := this
    exact set_keep hW (row_ne hW hc (by decide)) _
  have s1 := (h.fs.stored (i * 4) (.int .i64 p)).1
  have s2 := (s1.stored (i * 4 + 1) (.int .i64 c)).1
  have s3 := (s2.stored (i * 4 + 2) (.int .i64 m)).1
  have s4 := (s3.stored (i * 4 + 3) (.int .i64 k)).1
  have gb : ∀ {W : World} {xs : List Value}, W.ownsRow base 37 4 (.slice (some ⟨g, 0, none⟩) M.length cap) M.length xs → ∃ cur, W.heap[g]? = some (.cells cur 37 (0, 0)) := by
    intro W xs hW
    obtain ⟨-, ⟨e, -⟩ | ⟨g2, cap2, cur, e, -, hb, -⟩⟩ := hW
    · cases e
    · cases e
      exact ⟨cur, hb⟩
  refine ⟨⟨h.bb, ?_, ?_, ?_⟩, (((hF.setCell (fun _ => hG) _ _).setCell (fun _ => hG) _ _).setCell (fun _ => hG) _ _).setCell (fun _ => hG) _ _⟩
  · rw [o1, o1, o1, o1]
    exact h.tb
  · rw [hl, rowM_set hx]
    exact s4
  · rw [hl, rowC_setN hx]
    exact c1 _ _ (c1 _ _ (c1 _ _ (c1 _ _ h.cs (.inl rfl)) (.inr (gb s1))) (.inr (gb s2))) (.inr (gb s3))

/-- Four stores into a row of feeds. -/
theorem own_chain {W : World} {base g cap n : Nat} {xs : List Value} (h : W.ownsRow base 37 4 (.slice (some ⟨g, 0, none⟩) n cap) n xs) {i : Nat} {x0 x1 x2 x3 : Value} (hl : i * 4 + 3 < n * 4) (h0 : xs[i * 4]? = some x0) (h1 : xs[i * 4 + 1]? = some x1) (h2 : xs[i * 4 + 2]? = some x2) (h3 : xs[i * 4 + 3]? = some x3) (v0 v1 v2 v3 : Value) :
    (W.frozen? ⟨g, i * 4, none⟩ = false ∧ W.cell? ⟨g, i * 4, none⟩ = some x0) ∧
    ((W.setCell ⟨g, i * 4, none⟩ v0).frozen? ⟨g, i * 4 + 1, none⟩ = false ∧ (W.setCell ⟨g, i * 4, none⟩ v0).cell? ⟨g, i * 4 + 1, none⟩ = some x1) ∧
    (((W.setCell ⟨g, i * 4, none⟩ v0).setCell ⟨g, i * 4 + 1, none⟩ v1).frozen? ⟨g, i * 4 + 2, none⟩ = false ∧ ((W.setCell ⟨g, i * 4, none⟩ v0).setCell ⟨g, i * 4 + 1, none⟩ v1).cell? ⟨g, i * 4 + 2, none⟩ = some x2) ∧
    ((((W.setCell ⟨g, i * 4, none⟩ v0).setCell ⟨g, i * 4 + 1, none⟩ v1).setCell ⟨g, i * 4 + 2, none⟩ v2).frozen? ⟨g, i * 4 + 3, none⟩ = false ∧ (((W.setCell ⟨g, i * 4, none⟩ v0).setCell ⟨g, i * 4 + 1, none⟩ v1).setCell ⟨g, i * 4 + 2, none⟩ v2).cell? ⟨g, i * 4 + 3, none⟩ = some x3) ∧
    ((((W.setCell ⟨g, i * 4, none⟩ v0).setCell ⟨g, i * 4 + 1, none⟩ v1).setCell ⟨g, i * 4 + 2, none⟩ v2).setCell ⟨g, i * 4 + 3, none⟩ v3).ownsRow base 37 4 (.slice (some ⟨g, 0, none⟩) n cap) n ((((xs.set (i * 4) v0).set (i * 4 + 1) v1).set (i * 4 + 2) v2).set (i * 4 + 3) v3) := by
  have s1 := (h.stored (i * 4) v0).1
  have s2 := (s1.stored (i * 4 + 1) v1).1
  have s3 := (s2.stored (i * 4 + 2) v2).1
  have s4 := (s3.stored (i * 4 + 3) v3).1
  refine ⟨⟨h.frozenAt _, ?_⟩, ⟨s1.frozenAt _, ?_⟩, ⟨s2.frozenAt _, ?_⟩, ⟨s3.frozenAt _, ?_⟩, s4⟩
  · rw [h.cellAt _ (by omega)]
    exact h0
  · rw [s1.cellAt _ (by omega), List.getElem?_set_ne (by omega)]
    exact h1
  · rw [s2.cellAt _ (by omega), List.getElem?_set_ne (by omega), List.getElem?_set_ne (by omega)]
    exact h2
  · rw [s3.cellAt _ (by omega), List.getElem?_set_ne (by omega), List.getElem?_set_ne (by omega), List.getElem?_set_ne (by omega)]
    exact h3

/-- A row of a table that lies as it lay. -/
theorem RT.heap {w w0 w' : World} {base b : Nat} {M : List PM} {u v : Value} (h : RT w base b M u v) (e : w0.heap = w.heap) (F : Fr (fun _ => False) w0 w') : RT w' base b M u v :=
  h.keep fun k hk _ => by
    rw [← e] at hk ⊢
    exact F.block k hk (fun x => x)
/-- A feed is laid into a table: what each store wants, and what comes of them. -/
theorem RT.chain {w : World} {base b i g cap : Nat} {M : List PM} {x : PM} {v : Value} (h : RT w base b M (.slice (some ⟨g, 0, none⟩) M.length cap) v) (hx : M[i]? = some x) (p c m k : Int) :
    (w.frozen? ⟨g, i * 4, none⟩ = false ∧ w.cell? ⟨g, i * 4, none⟩ = some (.int .i64 x.p)) ∧
    ((w.setCell ⟨g, i * 4, none⟩ (.int .i64 p)).frozen? ⟨g, i * 4 + 1, none⟩ = false ∧ (w.setCell ⟨g, i * 4, none⟩ (.int .i64 p)).cell? ⟨g, i * 4 + 1, none⟩ = some (.int .i64 x.c)) ∧
    (((w.setCell ⟨g, i * 4, none⟩ (.int .i64 p)).setCell ⟨g, i * 4 + 1, none⟩ (.int .i64 c)).frozen? ⟨g, i * 4 + 2, none⟩ = false ∧ ((w.setCell ⟨g, i * 4, none⟩ (.int .i64 p)).setCell ⟨g, i * 4 + 1, none⟩ (.int .i64 c)).cell? ⟨g, i * 4 + 2, none⟩ = some (.int .i64 x.m)) ∧
    ((((w.setCell ⟨g, i * 4, none⟩ (.int .i64 p)).setCell ⟨g, i * 4 + 1, none⟩ (.int .i64 c)).setCell ⟨g, i * 4 + 2, none⟩ (.int .i64 m)).frozen? ⟨g, i * 4 + 3, none⟩ = false ∧ (((w.setCell ⟨g, i * 4, none⟩ (.int .i64 p)).setCell ⟨g, i * 4 + 1, none⟩ (.int .i64 c)).setCell ⟨g, i * 4 + 2, none⟩ (.int .i64 m)).cell? ⟨g, i * 4 + 3, none⟩ = some (.int .i64 x.k)) ∧
    RA w ((((w.setCell ⟨g, i * 4, none⟩ (.int .i64 p)).setCell ⟨g, i * 4 + 1, none⟩ (.int .i64 c)).setCell ⟨g, i * 4 + 2, none⟩ (.int .i64 m)).setCell ⟨g, i * 4 + 3, none⟩ (.int .i64 k)) base b (M.set i ⟨p, c, m, k, x.n⟩) := by
  obtain ⟨q0, q1, q2, q3⟩ := rowM_get hx
  have hi := (List.getElem?_eq_some_iff.1 hx).1
  obtain ⟨a0, a1, a2, a3, -⟩ := own_chain h.fs (i := i) (by omega) q0 q1 q2 q3 (.int .i64 p) (.int .i64 c) (.int .i64 m) (.int .i64 k)
  obtain ⟨b1, b2⟩ := h.set4 hx p c m k
  exact ⟨a0, a1, a2, a3, _, _, b1, b2⟩

theorem RA.ahead {w w3 w5 w' : World} {base b : Nat} {M : List PM} (h : RA w5 w' base b M) (F3 : Fr (RS base w) w w3) (F5 : Fr (fun _ => False) w3.drew w5) : RA w w' base b M := by
  obtain ⟨u, v, R, F⟩ := h
  have F5' : Fr (fun _ => False) w3 w5 := ((Fr.refl _ w3).drew).trans F5 (fun _ _ e => e)
  exact ⟨u, v, R, (F3.rs F5'.none_rs).rs F⟩
theorem jc_m1 {k : Int} (h : -2 ≤ k) : jc k (-1) = k := by
  unfold jc
  grind
theorem or_step (m : Int) (g : Nat → Int) (i : Nat) (h1 : 1 ≤ g i) (h2 : g i ≤ 62) : orI (orI m (mk g i)) (2 ^ (g i).toNat) = orI m (mk g (i + 1)) := by
  simp only [mk]
  rw [if_pos ⟨h1, h2⟩, orI_assoc]

set_option maxRecDepth 20000 in
set_option maxHeartbeats 4000000 in
theorem rsee_any (w : World) (base b : Nat) (M : List PM) (u v : Value) (h : RT w base b M u v) (p c : Int) (ao : Option Addr) (n cap : Nat) (g : Nat → Int) (hn : n ≤ 9223372036854775807) (hr : IRow w ao n g)
    (hsep : ∀ b' off, ao = some ⟨b', off, none⟩ → n ≠ 0 → b' < base) (hM : (M.length + 1) * 32 ≤ 140737488355328) (hN : NrmS M) :
    Calls Try.prog 9 #[.pointer (some ⟨b, 0, none⟩), .int .i64 p, .int .i64 c, .slice ao n cap] w fun e w' => e = .returned (.tuple #[]) ∧ RA w w' base b (insS ⟨p, c, mk g n, -1⟩ M) := by
  have K1 := hide (find_any w base b M u v h p c hM)
  obtain ⟨x, hx, hxp, hxc⟩ := fin_get p c M
  have hxN := fin_nrm (p := p) (c := c) hN x (List.mem_of_getElem? hx)
  have E1 := hide (ins_fin ⟨p, c, mk g n, -1⟩ M (x := x) hx)
  have hix := ix_lt p c M
  have HX := hide hx
  have HR := hide hr
  have HSEP := hide hsep
  have hbs : Hid (base ≤ w.heap.size) := by unfold Hid; have := h.bb; have := lt_of_block h.tb; omega
  obtain ⟨xp, xc, xm, xk, xn⟩ := x
  dsimp only at hxp hxc hxN
  subst hxp hxc
  have HXN := hide hxN
  clear h hr hsep hN hx hxN
  go_enter Try.func9, Try.ntmps9
  go_wp2_with (first | (go_at_call 25; refine K1.out.mono ?_; rintro e3 w3 ⟨rfl, u3, v3, R3, F3⟩; have HR3 := hide R3; have HF3 := hide F3; clear R3 F3))
  obtain ⟨g3, cap3, g3', cap3', rfl, rfl, -⟩ := HR3.out.at HX.out
  go_loopw [9] (fun y wr => ∃ i : Nat, y = .int .i64 (i : Int) ∧ i ≤ n ∧ RT wr base b ((fin xp xc M).set (ixS xp xc M) ⟨xp, xc, orI xm (mk g i), xk, xn⟩) (.slice (some ⟨g3, 0, none⟩) (fin xp xc M).length cap3) (.slice (some ⟨g3', 0, none⟩) (fin xp xc M).length cap3') ∧ Fr (RS base w) w wr) (fun y _ => n - (intOf y).toNat)
  case atStart =>
    refine ⟨0, rfl, Nat.zero_le _, ?_, HF3.out⟩
    have e : (⟨xp, xc, orI xm (mk g 0), xk, xn⟩ : PM) = ⟨xp, xc, xm, xk, xn⟩ := by
      have := HXN.out.1
      simp only at this
      simp only [mk, this]
    rw [e]
    have e2 : (fin xp xc M).set (ixS xp xc M) ⟨xp, xc, xm, xk, xn⟩ = fin xp xc M := by
      obtain ⟨h1, h2⟩ := List.getElem?_eq_some_iff.1 HX.out
      rw [← h2]
      exact List.set_getElem_self _
    rw [e2]
    exact HR3.out
  case round =>
    obtain ⟨i, rfl, hi, hT, hF⟩ := hrel
    by_cases hil : i < n
    · have hiI : (i : Int) < (n : Int) := by omega
      obtain ⟨b', off, rfl, hcel⟩ : ∃ b off, ao = some ⟨b, off, none⟩ ∧ ∀ i, i < n → w.cell? ⟨b, off + i, none⟩ = some (.int .i64 (g i)) := by
        rcases HR.out with e | e
        · omega
        · exact e
      have q0 := hcel i hil
      have hb' := HSEP.out b' off rfl (by omega)
      rw [← hF.cell (World.block_lt_of_cell? w _ q0) (fun e => by have h := e.1; dsimp only at h; omega)] at q0
      have hst := or_step xm g i
      generalize hg : g i = z at *
      have hT0 := hT
      have hl2 : ((fin xp xc M).set (ixS xp xc M) ⟨xp, xc, orI xm (mk g i), xk, xn⟩).length = (fin xp xc M).length := by simp
      rw [← hl2] at hT0
      obtain ⟨_, _, _, _, ea, _, -, -, q2, -, -, -⟩ := hT.at (i := ixS xp xc M) (x := ⟨xp, xc, orI xm (mk g i), xk, xn⟩) (by simp [hix])
      simp at ea
      obtain ⟨rfl, -⟩ := ea
      have c0 := hT.c0
      have z0 := hT0.fzu (ixS xp xc M * 4 + 2)
      have hS := hT0.setM (i := ixS xp xc M) (x := ⟨xp, xc, orI xm (mk g i), xk, xn⟩) (by simp [hix]) (orI (orI xm (mk g i)) (2 ^ z.toNat))
      simp only [List.set_set, List.length_set] at hS
      have HS := hide hS.1
      have HFS := hide (hF.rs hS.2)
      have HT := hide hT
      have HF := hide hF
      have HST := hide hst
      have HG := hide hg
      clear hT hF hcel hT0 hl2 hS hst hg
      by_cases h1 : 1 ≤ z
      · by_cases h2 : z ≤ 62
        · have hx0 : 0 ≤ z := by omega
          go_wp2_with fail
          go_region
          go_wp2_with fail
          have e1 := HS.out
          have e2 := HFS.out
          refine ⟨⟨i + 1, by go_num, hil, ?_, ?_⟩, by simp [intOf]; omega⟩
          · rw [w64_pow h1 h2, ← HST.out h1 h2]
            exact e1.same ((Fr.refl _ _).drew)
          · rw [w64_pow h1 h2]
            exact e2.drew
        · go_wp2_with fail
          have e1 : mk g (i + 1) = mk g i := by
            simp only [mk]
            rw [HG.out, if_neg (fun e => h2 e.2)]
          refine ⟨⟨i + 1, by go_num, hil, ?_, HF.out⟩, by simp [intOf]; omega⟩
          rw [e1]
          exact HT.out
      · go_wp2_with fail
        have e1 : mk g (i + 1) = mk g i := by
          simp only [mk]
          rw [HG.out, if_neg (fun e => h1 e.1)]
        refine ⟨⟨i + 1, by go_num, hil, ?_, HF.out⟩, by simp [intOf]; omega⟩
        rw [e1]
        exact HT.out
    · have e : i = n := by omega
      subst e
      have hil' : ¬ ((i : Int) < (i : Int)) := by omega
      have HT := hide hT
      have HF := hide hF
      clear hT hF hil
      go_wp2_with fail
      go_end0
      rw [E1.out]
      have e := jc_m1 (HXN.out.2)
      simp only at e
      have hT := HT.out
      rw [← e] at hT
      exact ⟨rfl, _, _, hT, HF.out⟩

/-! ## Call, Add -/

set_option maxRecDepth 20000 in
set_option maxHeartbeats 4000000 in
theorem rcall_any (w : World) (base b : Nat) (M : List PM) (u v : Value) (h : RT w base b M u v) (p c cc : Int) (hM : (M.length + 1) * 32 ≤ 140737488355328) :
    Calls Try.prog 11 #[.pointer (some ⟨b, 0, none⟩), .int .i64 p, .int .i64 c, .int .i64 cc] w fun e w' => e = .returned (.tuple #[]) ∧ RA w w' base b (insS ⟨p, c, 0, if cc < 0 then -2 else cc⟩ M) := by
  obtain ⟨k, hk⟩ : ∃ k, k = if cc < 0 then -2 else cc := ⟨_, rfl⟩
  rw [← hk]
  have K1 := hide (find_any w base b M u v h p c hM)
  obtain ⟨x, hx, hxp, hxc⟩ := fin_get p c M
  have E1 := hide (ins_fin ⟨p, c, 0, k⟩ M (x := x) hx)
  have hix := ix_lt p c M
  have HX := hide hx
  obtain ⟨xp, xc, xm, xk, xn⟩ := x
  dsimp only at hxp hxc
  subst hxp hxc
  have K5 := hide (fun W => rjoin_any W xp xc xm xk 0 0 0 k)
  clear h hx
  by_cases hc : cc < 0
  · rw [if_pos hc] at hk
    subst hk
    go_enter Try.func11, Try.ntmps11
    go_upto_region 3 with (go_at_call 25; refine K1.out.mono ?_; rintro e3 w3 ⟨rfl, u3, v3, R3, F3⟩; have HR3 := hide R3; have HF3 := hide F3; clear R3 F3)
    obtain ⟨g3, cap3, g3', cap3', rfl, rfl, q0, q1, q2, q3, -⟩ := HR3.out.at HX.out
    have c0 := HR3.out.c0
    have HCH : Hid (∀ W0 W, Fr (fun _ => False) W0 W → W0.heap = w3.heap → _) := hide (fun W0 W F e => (HR3.out.heap e F).chain HX.out xp xc (orI xm 0) (jc xk (-2)))
    have hne : g3 ≠ b := HR3.out.gne
    have hne' : b ≠ g3 := Ne.symm hne
    refine wp_region_held_drew (S := fun w' => w'.cell? ⟨b, 0, none⟩ = some (.slice (some ⟨g3, 0, none⟩) (fin xp xc M).length cap3)) (by kernel_rfl) (by go_keep) (fun hS0 => ?_)
    refine wpAnyH_take (i := 0) (oi := { dst := some 15, op := Op.move (Operand.tmp 0), type := 25, pos := "ref.go:59", after := #[], guard := none }) (v := ?_) rfl (by kernel_rfl) (by kernel_rfl) (by kernel_rfl) (fun _ _ _ h => h) (Or.inl ⟨by rfl, ?_⟩) (by assumption) ?_; rotate_left; · (intro w hSw; (try dsimp only at hSw); go_simp; (try with_reducible rfl)); try simp only [Act.put, List.setIfInBounds_toArray, List.set_cons_zero, List.set_cons_succ]
    refine wpAnyH_take (i := 1) (oi := { dst := some 16, op := Op.nilCheck (Operand.tmp 15), type := 0, pos := "ref.go:59", after := #[{ on := 0, ground := Ground.data }], guard := none }) (v := ?_) rfl (by kernel_rfl) (by kernel_rfl) (by kernel_rfl) (fun _ _ _ h => h) (Or.inl ⟨by rfl, ?_⟩) (by assumption) ?_; rotate_left; · (intro w hSw; (try dsimp only at hSw); go_simp; (try with_reducible rfl)); try simp only [Act.put, List.setIfInBounds_toArray, List.set_cons_zero, List.set_cons_succ]
    refine wpAnyH_take (i := 2) (oi := { dst := some 17, op := Op.fieldAddr 29 (Operand.tmp 16) 0, type := 0, pos := "ref.go:59", after := #[{ on := 1, ground := Ground.data }], guard := none }) (v := ?_) rfl (by kernel_rfl) (by kernel_rfl) (by kernel_rfl) (fun _ _ _ h => h) (Or.inl ⟨by rfl, ?_⟩) (by assumption) ?_; rotate_left; · (intro w hSw; (try dsimp only at hSw); go_simp; (try with_reducible rfl)); try simp only [Act.put, List.setIfInBounds_toArray, List.set_cons_zero, List.set_cons_succ]
    refine wpAnyH_take (i := 3) (oi := { dst := some 18, op := Op.load 26 (Operand.tmp 17), type := 26, pos := "ref.go:59", after := #[{ on := 2, ground := Ground.data }], guard := none }) (v := ?_) rfl (by kernel_rfl) (by kernel_rfl) (by kernel_rfl) (fun _ _ _ h => h) (Or.inl ⟨by rfl, ?_⟩) (by assumption) ?_; rotate_left; · (intro w hSw; (try dsimp only at hSw); go_simp; (try with_reducible rfl)); try simp only [Act.put, List.setIfInBounds_toArray, List.set_cons_zero, List.set_cons_succ]
    refine wpAnyH_take (i := 4) (oi := { dst := some 19, op := Op.move (Operand.tmp 8), type := 3, pos := "ref.go:59", after := #[], guard := none }) (v := ?_) rfl (by kernel_rfl) (by kernel_rfl) (by kernel_rfl) (fun _ _ _ h => h) (Or.inl ⟨by rfl, ?_⟩) (by assumption) ?_; rotate_left; · (intro w hSw; (try dsimp only at hSw); go_simp; (try with_reducible rfl)); try simp only [Act.put, List.setIfInBounds_toArray, List.set_cons_zero, List.set_cons_succ]
    refine wpAnyH_take (i := 5) (oi := { dst := some 20, op := Op.move (Operand.tmp 0), type := 25, pos := "ref.go:59", after := #[], guard := none }) (v := ?_) rfl (by kernel_rfl) (by kernel_rfl) (by kernel_rfl) (fun _ _ _ h => h) (Or.inl ⟨by rfl, ?_⟩) (by assumption) ?_; rotate_left; · (intro w hSw; (try dsimp only at hSw); go_simp; (try with_reducible rfl)); try simp only [Act.put, List.setIfInBounds_toArray, List.set_cons_zero, List.set_cons_succ]
    refine wpAnyH_take (i := 6) (oi := { dst := some 21, op := Op.nilCheck (Operand.tmp 20), type := 0, pos := "ref.go:59", after := #[{ on := 5, ground := Ground.data }], guard := none }) (v := ?_) rfl (by kernel_rfl) (by kernel_rfl) (by kernel_rfl) (fun _ _ _ h => h) (Or.inl ⟨by rfl, ?_⟩) (by assumption) ?_; rotate_left; · (intro w hSw; (try dsimp only at hSw); go_simp; (try with_reducible rfl)); try simp only [Act.put, List.setIfInBounds_toArray, List.set_cons_zero, List.set_cons_succ]
    refine wpAnyH_take (i := 7) (oi := { dst := some 22, op := Op.fieldAddr 29 (Operand.tmp 21) 0, type := 0, pos := "ref.go:59", after := #[{ on := 6, ground := Ground.data }], guard := none }) (v := ?_) rfl (by kernel_rfl) (by kernel_rfl) (by kernel_rfl) (fun _ _ _ h => h) (Or.inl ⟨by rfl, ?_⟩) (by assumption) ?_; rotate_left; · (intro w hSw; (try dsimp only at hSw); go_simp; (try with_reducible rfl)); try simp only [Act.put, List.setIfInBounds_toArray, List.set_cons_zero, List.set_cons_succ]
    refine wpAnyH_take (i := 8) (oi := { dst := some 23, op := Op.load 26 (Operand.tmp 22), type := 26, pos := "ref.go:59", after := #[{ on := 7, ground := Ground.data }], guard := none }) (v := ?_) rfl (by kernel_rfl) (by kernel_rfl) (by kernel_rfl) (fun _ _ _ h => h) (Or.inl ⟨by rfl, ?_⟩) (by assumption) ?_; rotate_left; · (intro w hSw; (try dsimp only at hSw); go_simp; (try with_reducible rfl)); try simp only [Act.put, List.setIfInBounds_toArray, List.set_cons_zero, List.set_cons_succ]
    refine wpAnyH_take (i := 9) (oi := { dst := some 24, op := Op.move (Operand.tmp 8), type := 3, pos := "ref.go:59", after := #[], guard := none }) (v := ?_) rfl (by kernel_rfl) (by kernel_rfl) (by kernel_rfl) (fun _ _ _ h => h) (Or.inl ⟨by rfl, ?_⟩) (by assumption) ?_; rotate_left; · (intro w hSw; (try dsimp only at hSw); go_simp; (try with_reducible rfl)); try simp only [Act.put, List.setIfInBounds_toArray, List.set_cons_zero, List.set_cons_succ]
    refine wpAnyH_take (i := 10) (oi := { dst := some 25, op := Op.indexAddr 26 (Operand.tmp 23) (Operand.tmp 24), type := 0, pos := "ref.go:59", after := #[{ on := 8, ground := Ground.data }, { on := 9, ground := Ground.data }], guard := none }) (v := ?_) rfl (by kernel_rfl) (by kernel_rfl) (by kernel_rfl) (fun _ _ _ h => h) (Or.inl ⟨by rfl, ?_⟩) (by assumption) ?_; rotate_left; · (intro w hSw; (try dsimp only at hSw); go_simp; (try with_reducible rfl)); try simp only [Act.put, List.setIfInBounds_toArray, List.set_cons_zero, List.set_cons_succ]
    refine wpAnyH_take (i := 12) (oi := { dst := some 27, op := Op.move (Operand.tmp 3), type := 3, pos := "ref.go:59", after := #[], guard := none }) (v := ?_) rfl (by kernel_rfl) (by kernel_rfl) (by kernel_rfl) (fun _ _ _ h => h) (Or.inl ⟨by rfl, ?_⟩) (by assumption) ?_; rotate_left; · (intro w hSw; (try dsimp only at hSw); go_simp; (try with_reducible rfl)); try simp only [Act.put, List.setIfInBounds_toArray, List.set_cons_zero, List.set_cons_succ]
    refine wpAnyH_take (i := 13) (oi := { dst := some 28, op := Op.build 37 #[(3, Operand.tmp 27)], type := 37, pos := "ref.go:59", after := #[{ on := 12, ground := Ground.data }], guard := none }) (v := ?_) rfl (by kernel_rfl) (by kernel_rfl) (by kernel_rfl) (fun _ _ _ h => h) (Or.inl ⟨by rfl, ?_⟩) (by assumption) ?_; rotate_left; · (intro w hSw; (try dsimp only at hSw); go_simp; (try with_reducible rfl)); try simp only [Act.put, List.setIfInBounds_toArray, List.set_cons_zero, List.set_cons_succ]
    refine wpAnyH_ready (rs := [11]) (by kernel_rfl) (by simp) ?_; refine AllReadyH.cons (o := { dst := some 26, op := Op.load 37 (Operand.tmp 25), type := 37, pos := "ref.go:59", after := #[{ on := 10, ground := Ground.data }], guard := none }) rfl (fun K hK => ?_) AllReadyH.nil
    go_simp
    refine hK.out _ _ (by assumption) (fun hHeld => ?_)
    clear hK K
    try simp only [Act.put, List.setIfInBounds_toArray, List.set_cons_zero, List.set_cons_succ]
    refine wpAnyH_ready (rs := [14]) (by kernel_rfl) (by simp) ?_; refine AllReadyH.cons (o := { dst := some 29, op := Op.call { callee := Callee.value (Operand.func 23), args := #[Operand.tmp 26, Operand.tmp 28], argTypes := #[37, 37] }, type := 37, pos := "ref.go:59", after := #[{ on := 11, ground := Ground.data }, { on := 13, ground := Ground.data }], guard := none }) rfl (fun K hK => ?_) AllReadyH.nil
    go_simp
    go_at_call 23
    refine (K5.out _).mono ?_
    rintro e5 w5 ⟨rfl, F5⟩
    unfold fdV
    obtain ⟨⟨z0, y0⟩, ⟨z1, y1⟩, ⟨z2, y2⟩, ⟨z3, y3⟩, ra⟩ := HCH.out _ _ F5 rfl
    have hb5 := (HR3.out.heap (w' := w5) (w0 := w3.drew) rfl F5).c0
    have HRA := hide ra
    have HF5 := hide F5
    clear F5 ra
    go_wp2_with fail
    refine hK.out _ _ (by assumption) (fun hHeld5 => ?_)
    clear hK K
    try simp only [Act.put, List.setIfInBounds_toArray, List.set_cons_zero, List.set_cons_succ]
    refine wpAnyH_take (i := 15) (oi := { dst := some 30, op := Op.indexAddr 26 (Operand.tmp 18) (Operand.tmp 19), type := 0, pos := "ref.go:59", after := #[{ on := 3, ground := Ground.data }, { on := 4, ground := Ground.data }, { on := 0, ground := Ground.phase }, { on := 1, ground := Ground.phase }, { on := 2, ground := Ground.phase }, { on := 3, ground := Ground.phase }, { on := 4, ground := Ground.phase }, { on := 5, ground := Ground.phase }, { on := 6, ground := Ground.phase }, { on := 7, ground := Ground.phase }, { on := 8, ground := Ground.phase }, { on := 9, ground := Ground.phase }, { on := 10, ground := Ground.phase }, { on := 11, ground := Ground.phase }, { on := 12, ground := Ground.phase }, { on := 13, ground := Ground.phase }, { on := 14, ground := Ground.phase }], guard := none }) (v := ?_) rfl (by kernel_rfl) (by kernel_rfl) (by kernel_rfl) (fun _ _ _ h => h) (Or.inl ⟨by rfl, ?_⟩) (by assumption) ?_; rotate_left; · (intro w hSw; (try dsimp only at hSw); go_simp; (try with_reducible rfl)); try simp only [Act.put, List.setIfInBounds_toArray, List.set_cons_zero, List.set_cons_succ]
    refine wpAnyH_ready (rs := [16]) (by kernel_rfl) (by simp) ?_; refine AllReadyH.cons (o := { dst := none, op := Op.store 37 (Operand.tmp 30) (Operand.tmp 29), type := 0, pos := "ref.go:59", after := #[{ on := 15, ground := Ground.data }, { on := 14, ground := Ground.data }, { on := 14, ground := Ground.chain }, { on := 0, ground := Ground.phase }, { on := 1, ground := Ground.phase }, { on := 2, ground := Ground.phase }, { on := 3, ground := Ground.phase }, { on := 4, ground := Ground.phase }, { on := 5, ground := Ground.phase }, { on := 6, ground := Ground.phase }, { on := 7, ground := Ground.phase }, { on := 8, ground := Ground.phase }, { on := 9, ground := Ground.phase }, { on := 10, ground := Ground.phase }, { on := 11, ground := Ground.phase }, { on := 12, ground := Ground.phase }, { on := 13, ground := Ground.phase }, { on := 14, ground := Ground.phase }], guard := none }) rfl (fun K hK => ?_) AllReadyH.nil
    go_simp
    refine hK.out _ _ (by go_keep) (fun hHeld6 => ?_)
    clear hK K
    refine wpAnyH_done (by kernel_rfl) ?_ _
    go_wp2_with fail
    go_end0
    rw [E1.out]
    exact ⟨rfl, HRA.out.ahead HF3.out HF5.out⟩
  · rw [if_neg hc] at hk
    subst hk
    go_enter Try.func11, Try.ntmps11
    go_upto_region 3 with (go_at_call 25; refine K1.out.mono ?_; rintro e3 w3 ⟨rfl, u3, v3, R3, F3⟩; have HR3 := hide R3; have HF3 := hide F3; clear R3 F3)
    obtain ⟨g3, cap3, g3', cap3', rfl, rfl, q0, q1, q2, q3, -⟩ := HR3.out.at HX.out
    have c0 := HR3.out.c0
    have HCH : Hid (∀ W0 W, Fr (fun _ => False) W0 W → W0.heap = w3.heap → _) := hide (fun W0 W F e => (HR3.out.heap e F).chain HX.out xp xc (orI xm 0) (jc xk k))
    have hne : g3 ≠ b := HR3.out.gne
    have hne' : b ≠ g3 := Ne.symm hne
    refine wp_region_held_drew (S := fun w' => w'.cell? ⟨b, 0, none⟩ = some (.slice (some ⟨g3, 0, none⟩) (fin xp xc M).length cap3)) (by kernel_rfl) (by go_keep) (fun hS0 => ?_)
    refine wpAnyH_take (i := 0) (oi := { dst := some 15, op := Op.move (Operand.tmp 0), type := 25, pos := "ref.go:59", after := #[], guard := none }) (v := ?_) rfl (by kernel_rfl) (by kernel_rfl) (by kernel_rfl) (fun _ _ _ h => h) (Or.inl ⟨by rfl, ?_⟩) (by assumption) ?_; rotate_left; · (intro w hSw; (try dsimp only at hSw); go_simp; (try with_reducible rfl)); try simp only [Act.put, List.setIfInBounds_toArray, List.set_cons_zero, List.set_cons_succ]
    refine wpAnyH_take (i := 1) (oi := { dst := some 16, op := Op.nilCheck (Operand.tmp 15), type := 0, pos := "ref.go:59", after := #[{ on := 0, ground := Ground.data }], guard := none }) (v := ?_) rfl (by kernel_rfl) (by kernel_rfl) (by kernel_rfl) (fun _ _ _ h => h) (Or.inl ⟨by rfl, ?_⟩) (by assumption) ?_; rotate_left; · (intro w hSw; (try dsimp only at hSw); go_simp; (try with_reducible rfl)); try simp only [Act.put, List.setIfInBounds_toArray, List.set_cons_zero, List.set_cons_succ]
    refine wpAnyH_take (i := 2) (oi := { dst := some 17, op := Op.fieldAddr 29 (Operand.tmp 16) 0, type := 0, pos := "ref.go:59", after := #[{ on := 1, ground := Ground.data }], guard := none }) (v := ?_) rfl (by kernel_rfl) (by kernel_rfl) (by kernel_rfl) (fun _ _ _ h => h) (Or.inl ⟨by rfl, ?_⟩) (by assumption) ?_; rotate_left; · (intro w hSw; (try dsimp only at hSw); go_simp; (try with_reducible rfl)); try simp only [Act.put, List.setIfInBounds_toArray, List.set_cons_zero, List.set_cons_succ]
    refine wpAnyH_take (i := 3) (oi := { dst := some 18, op := Op.load 26 (Operand.tmp 17), type := 26, pos := "ref.go:59", after := #[{ on := 2, ground := Ground.data }], guard := none }) (v := ?_) rfl (by kernel_rfl) (by kernel_rfl) (by kernel_rfl) (fun _ _ _ h => h) (Or.inl ⟨by rfl, ?_⟩) (by assumption) ?_; rotate_left; · (intro w hSw; (try dsimp only at hSw); go_simp; (try with_reducible rfl)); try simp only [Act.put, List.setIfInBounds_toArray, List.set_cons_zero, List.set_cons_succ]
    refine wpAnyH_take (i := 4) (oi := { dst := some 19, op := Op.move (Operand.tmp 8), type := 3, pos := "ref.go:59", after := #[], guard := none }) (v := ?_) rfl (by kernel_rfl) (by kernel_rfl) (by kernel_rfl) (fun _ _ _ h => h) (Or.inl ⟨by rfl, ?_⟩) (by assumption) ?_; rotate_left; · (intro w hSw; (try dsimp only at hSw); go_simp; (try with_reducible rfl)); try simp only [Act.put, List.setIfInBounds_toArray, List.set_cons_zero, List.set_cons_succ]
    refine wpAnyH_take (i := 5) (oi := { dst := some 20, op := Op.move (Operand.tmp 0), type := 25, pos := "ref.go:59", after := #[], guard := none }) (v := ?_) rfl (by kernel_rfl) (by kernel_rfl) (by kernel_rfl) (fun _ _ _ h => h) (Or.inl ⟨by rfl, ?_⟩) (by assumption) ?_; rotate_left; · (intro w hSw; (try dsimp only at hSw); go_simp; (try with_reducible rfl)); try simp only [Act.put, List.setIfInBounds_toArray, List.set_cons_zero, List.set_cons_succ]
    refine wpAnyH_take (i := 6) (oi := { dst := some 21, op := Op.nilCheck (Operand.tmp 20), type := 0, pos := "ref.go:59", after := #[{ on := 5, ground := Ground.data }], guard := none }) (v := ?_) rfl (by kernel_rfl) (by kernel_rfl) (by kernel_rfl) (fun _ _ _ h => h) (Or.inl ⟨by rfl, ?_⟩) (by assumption) ?_; rotate_left; · (intro w hSw; (try dsimp only at hSw); go_simp; (try with_reducible rfl)); try simp only [Act.put, List.setIfInBounds_toArray, List.set_cons_zero, List.set_cons_succ]
    refine wpAnyH_take (i := 7) (oi := { dst := some 22, op := Op.fieldAddr 29 (Operand.tmp 21) 0, type := 0, pos := "ref.go:59", after := #[{ on := 6, ground := Ground.data }], guard := none }) (v := ?_) rfl (by kernel_rfl) (by kernel_rfl) (by kernel_rfl) (fun _ _ _ h => h) (Or.inl ⟨by rfl, ?_⟩) (by assumption) ?_; rotate_left; · (intro w hSw; (try dsimp only at hSw); go_simp; (try with_reducible rfl)); try simp only [Act.put, List.setIfInBounds_toArray, List.set_cons_zero, List.set_cons_succ]
    refine wpAnyH_take (i := 8) (oi := { dst := some 23, op := Op.load 26 (Operand.tmp 22), type := 26, pos := "ref.go:59", after := #[{ on := 7, ground := Ground.data }], guard := none }) (v := ?_) rfl (by kernel_rfl) (by kernel_rfl) (by kernel_rfl) (fun _ _ _ h => h) (Or.inl ⟨by rfl, ?_⟩) (by assumption) ?_; rotate_left; · (intro w hSw; (try dsimp only at hSw); go_simp; (try with_reducible rfl)); try simp only [Act.put, List.setIfInBounds_toArray, List.set_cons_zero, List.set_cons_succ]
    refine wpAnyH_take (i := 9) (oi := { dst := some 24, op := Op.move (Operand.tmp 8), type := 3, pos := "ref.go:59", after := #[], guard := none }) (v := ?_) rfl (by kernel_rfl) (by kernel_rfl) (by kernel_rfl) (fun _ _ _ h => h) (Or.inl ⟨by rfl, ?_⟩) (by assumption) ?_; rotate_left; · (intro w hSw; (try dsimp only at hSw); go_simp; (try with_reducible rfl)); try simp only [Act.put, List.setIfInBounds_toArray, List.set_cons_zero, List.set_cons_succ]
    refine wpAnyH_take (i := 10) (oi := { dst := some 25, op := Op.indexAddr 26 (Operand.tmp 23) (Operand.tmp 24), type := 0, pos := "ref.go:59", after := #[{ on := 8, ground := Ground.data }, { on := 9, ground := Ground.data }], guard := none }) (v := ?_) rfl (by kernel_rfl) (by kernel_rfl) (by kernel_rfl) (fun _ _ _ h => h) (Or.inl ⟨by rfl, ?_⟩) (by assumption) ?_; rotate_left; · (intro w hSw; (try dsimp only at hSw); go_simp; (try with_reducible rfl)); try simp only [Act.put, List.setIfInBounds_toArray, List.set_cons_zero, List.set_cons_succ]
    refine wpAnyH_take (i := 12) (oi := { dst := some 27, op := Op.move (Operand.tmp 3), type := 3, pos := "ref.go:59", after := #[], guard := none }) (v := ?_) rfl (by kernel_rfl) (by kernel_rfl) (by kernel_rfl) (fun _ _ _ h => h) (Or.inl ⟨by rfl, ?_⟩) (by assumption) ?_; rotate_left; · (intro w hSw; (try dsimp only at hSw); go_simp; (try with_reducible rfl)); try simp only [Act.put, List.setIfInBounds_toArray, List.set_cons_zero, List.set_cons_succ]
    refine wpAnyH_take (i := 13) (oi := { dst := some 28, op := Op.build 37 #[(3, Operand.tmp 27)], type := 37, pos := "ref.go:59", after := #[{ on := 12, ground := Ground.data }], guard := none }) (v := ?_) rfl (by kernel_rfl) (by kernel_rfl) (by kernel_rfl) (fun _ _ _ h => h) (Or.inl ⟨by rfl, ?_⟩) (by assumption) ?_; rotate_left; · (intro w hSw; (try dsimp only at hSw); go_simp; (try with_reducible rfl)); try simp only [Act.put, List.setIfInBounds_toArray, List.set_cons_zero, List.set_cons_succ]
    refine wpAnyH_ready (rs := [11]) (by kernel_rfl) (by simp) ?_; refine AllReadyH.cons (o := { dst := some 26, op := Op.load 37 (Operand.tmp 25), type := 37, pos := "ref.go:59", after := #[{ on := 10, ground := Ground.data }], guard := none }) rfl (fun K hK => ?_) AllReadyH.nil
    go_simp
    refine hK.out _ _ (by assumption) (fun hHeld => ?_)
    clear hK K
    try simp only [Act.put, List.setIfInBounds_toArray, List.set_cons_zero, List.set_cons_succ]
    refine wpAnyH_ready (rs := [14]) (by kernel_rfl) (by simp) ?_; refine AllReadyH.cons (o := { dst := some 29, op := Op.call { callee := Callee.value (Operand.func 23), args := #[Operand.tmp 26, Operand.tmp 28], argTypes := #[37, 37] }, type := 37, pos := "ref.go:59", after := #[{ on := 11, ground := Ground.data }, { on := 13, ground := Ground.data }], guard := none }) rfl (fun K hK => ?_) AllReadyH.nil
    go_simp
    go_at_call 23
    refine (K5.out _).mono ?_
    rintro e5 w5 ⟨rfl, F5⟩
    unfold fdV
    obtain ⟨⟨z0, y0⟩, ⟨z1, y1⟩, ⟨z2, y2⟩, ⟨z3, y3⟩, ra⟩ := HCH.out _ _ F5 rfl
    have hb5 := (HR3.out.heap (w' := w5) (w0 := w3.drew) rfl F5).c0
    have HRA := hide ra
    have HF5 := hide F5
    clear F5 ra
    go_wp2_with fail
    refine hK.out _ _ (by assumption) (fun hHeld5 => ?_)
    clear hK K
    try simp only [Act.put, List.setIfInBounds_toArray, List.set_cons_zero, List.set_cons_succ]
    refine wpAnyH_take (i := 15) (oi := { dst := some 30, op := Op.indexAddr 26 (Operand.tmp 18) (Operand.tmp 19), type := 0, pos := "ref.go:59", after := #[{ on := 3, ground := Ground.data }, { on := 4, ground := Ground.data }, { on := 0, ground := Ground.phase }, { on := 1, ground := Ground.phase }, { on := 2, ground := Ground.phase }, { on := 3, ground := Ground.phase }, { on := 4, ground := Ground.phase }, { on := 5, ground := Ground.phase }, { on := 6, ground := Ground.phase }, { on := 7, ground := Ground.phase }, { on := 8, ground := Ground.phase }, { on := 9, ground := Ground.phase }, { on := 10, ground := Ground.phase }, { on := 11, ground := Ground.phase }, { on := 12, ground := Ground.phase }, { on := 13, ground := Ground.phase }, { on := 14, ground := Ground.phase }], guard := none }) (v := ?_) rfl (by kernel_rfl) (by kernel_rfl) (by kernel_rfl) (fun _ _ _ h => h) (Or.inl ⟨by rfl, ?_⟩) (by assumption) ?_; rotate_left; · (intro w hSw; (try dsimp only at hSw); go_simp; (try with_reducible rfl)); try simp only [Act.put, List.setIfInBounds_toArray, List.set_cons_zero, List.set_cons_succ]
    refine wpAnyH_ready (rs := [16]) (by kernel_rfl) (by simp) ?_; refine AllReadyH.cons (o := { dst := none, op := Op.store 37 (Operand.tmp 30) (Operand.tmp 29), type := 0, pos := "ref.go:59", after := #[{ on := 15, ground := Ground.data }, { on := 14, ground := Ground.data }, { on := 14, ground := Ground.chain }, { on := 0, ground := Ground.phase }, { on := 1, ground := Ground.phase }, { on := 2, ground := Ground.phase }, { on := 3, ground := Ground.phase }, { on := 4, ground := Ground.phase }, { on := 5, ground := Ground.phase }, { on := 6, ground := Ground.phase }, { on := 7, ground := Ground.phase }, { on := 8, ground := Ground.phase }, { on := 9, ground := Ground.phase }, { on := 10, ground := Ground.phase }, { on := 11, ground := Ground.phase }, { on := 12, ground := Ground.phase }, { on := 13, ground := Ground.phase }, { on := 14, ground := Ground.phase }], guard := none }) rfl (fun K hK => ?_) AllReadyH.nil
    go_simp
    refine hK.out _ _ (by go_keep) (fun hHeld6 => ?_)
    clear hK K
    refine wpAnyH_done (by kernel_rfl) ?_ _
    go_wp2_with fail
    go_end0
    rw [E1.out]
    exact ⟨rfl, HRA.out.ahead HF3.out HF5.out⟩

end Go.Proofs.Ytcefeclgehijpaa
