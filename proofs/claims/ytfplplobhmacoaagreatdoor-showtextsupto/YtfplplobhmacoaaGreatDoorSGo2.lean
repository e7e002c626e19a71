/-
  What is proved here: package show's goOn, at an item.
-/
import Derived.Test.YtfplplobhmacoaaGreatDoorSGo
namespace Go.Proofs.YtfplplobhmacoaaGreatDoor
open Go Go.RowKit

/-- show's put, with the last row in sight. -/
theorem put_last (w0 : World) (tb : Nat) (out : List UInt8) (σ : List RowP) (g cap : Nat) (a0 a1 a2 a3 a4 : Value) (l : List ByteArray) (k : Nat) (w : World) (h : LastAt w0 tb out σ g cap a0 a1 a2 a3 a4 w) (hlen : out.length + (flat l).length ≤ 140737488355328) (hl : l.length ≤ 1000) :
    Calls Tryz.prog 38 #[.pointer (some ⟨tb, 0, none⟩), .slice (some ⟨w.heap.size, 0, none⟩) l.length k] (w.alloc (.cells (l.map Value.string).toArray 9)) fun e w' => e = .returned (.tuple #[]) ∧ LastAt w0 tb (out ++ flat l) σ g cap a0 a1 a2 a3 a4 w' ∧ Kp tb w w' := by
  have h1 := h.more (up_alloc w (.cells (l.map Value.string).toArray 9))
  refine (put_any _ tb out _ l _ _ h1.tell (pcs_new w l k) hlen h1.up.size hl).mono ?_
  rintro e w' ⟨rfl, hT, hb, hk⟩
  obtain ⟨cur, ys, e3, e6, h4, e7⟩ := h1.blk
  refine ⟨rfl, ⟨h1.up.trans hb, hT, h1.hg, h1.hcap, h1.hmax, cur, ys, hk.2 _ _ _ _ (fun e => ?_) (by decide) e3, e6, h4, e7⟩, ((Kp.refl tb w).alloc _).trans hk⟩
  obtain ⟨c, hc⟩ := h1.tell.block
  rw [e, hc] at e3
  simp at e3

theorem cells7 {w1 : World} {g : Nat} {c0 c1 c2 c3 c4 c5 c6 : Value} {E : TypeId} {f : Nat × Nat} (h : w1.heap[g]? = some (.cells #[c0, c1, c2, c3, c4, c5, c6] E f)) : w1.cell? ⟨g, 0, none⟩ = some c0 ∧ w1.cell? ⟨g, 1, none⟩ = some c1 ∧ w1.cell? ⟨g, 2, none⟩ = some c2 ∧ w1.cell? ⟨g, 3, none⟩ = some c3 ∧ w1.cell? ⟨g, 4, none⟩ = some c4 ∧ w1.cell? ⟨g, 5, none⟩ = some c5 ∧ w1.cell? ⟨g, 6, none⟩ = some c6 :=
  ⟨cell_of_row w1 g 0 _ E f h, cell_of_row w1 g 1 _ E f h, cell_of_row w1 g 2 _ E f h, cell_of_row w1 g 3 _ E f h, cell_of_row w1 g 4 _ E f h, cell_of_row w1 g 5 _ E f h, cell_of_row w1 g 6 _ E f h⟩

/-- Seven cells of a datum that lay there. -/
theorem dat_cells {w0 W : World} {h : Nat} {d : Tr h} {b off : Nat} {cs : List Value} (hl : cs.length = 7) (hc : ∀ j, j < 7 → w0.cell? ⟨b, off + j, none⟩ = cs[j]?) (hd : DatC w0 h d cs) (u : Up w0 W) :
    ∃ k n bb um t ui ur, cs = [.int .i64 k, .int .i64 n, .bool bb, um, .string t, ui, ur] ∧ (∃ ao l cap, um = .slice ao l cap) ∧ (∃ ao l cap, ui = .slice ao l cap) ∧ (∃ ao l cap, ur = .slice ao l cap) ∧
      W.cell? ⟨b, off, none⟩ = some (.int .i64 k) ∧ W.cell? ⟨b, off + 1, none⟩ = some (.int .i64 n) ∧ W.cell? ⟨b, off + 2, none⟩ = some (.bool bb) ∧ W.cell? ⟨b, off + 3, none⟩ = some um ∧ W.cell? ⟨b, off + 4, none⟩ = some (.string t) ∧ W.cell? ⟨b, off + 5, none⟩ = some ui ∧ W.cell? ⟨b, off + 6, none⟩ = some ur := by
  match h, d, hd with
  | 0, _, hd => exact hd.elim
  | h + 1, (k, n, bb, L, t, I, R), hd =>
    obtain ⟨um, ui, ur, rfl, -, hM, -, hI, hR⟩ := hd
    obtain ⟨a1, c1, rfl, -⟩ := hM
    obtain ⟨a2, c2, rfl⟩ := hI.shape
    obtain ⟨a3, c3, rfl⟩ := hR.shape
    have hb : b < w0.heap.size := World.block_lt_of_cell? w0 _ (hc 0 (by decide))
    have key : ∀ j, j < 7 → W.cell? ⟨b, off + j, none⟩ = _ := fun j hj => (u.cell (p := ⟨b, off + j, none⟩) hb).trans (hc j hj)
    exact ⟨_, _, _, _, _, _, _, rfl, ⟨_, _, _, rfl⟩, ⟨_, _, _, rfl⟩, ⟨_, _, _, rfl⟩, key 0 (by decide), key 1 (by decide), key 2 (by decide), key 3 (by decide), key 4 (by decide), key 5 (by decide), key 6 (by decide)⟩

set_option maxHeartbeats 4000000 in
set_option maxRecDepth 100000 in
theorem goOn_left (w0 : World) (tb : Nat) (out : List UInt8) (σ : List RowP) (H : Nat) (sh : Bool) (gap fin : ByteArray) (d : Tr H) (L' R : List (Tr H)) (w : World) (hS : TS w0 tb out (σ ++ [⟨H, sh, gap, d :: L', R, fin⟩]) w) (htab : Tab w0) (hlen : out.length + gap.size + 200 * bk H d + 300 ≤ 140737488355328) (hσ : σ.length ≤ 100000000) (hLl : L'.length ≤ 100000000) :
    Calls Tryz.prog 24 #[.pointer (some ⟨tb, 0, none⟩)] w fun e w' => e = .returned (.tuple #[]) ∧ GoneOn w0 tb out (σ ++ [⟨H, sh, gap, d :: L', R, fin⟩]) w' := by
  obtain ⟨g, cap, a0, a1, a2, a3, a4, hA, hC⟩ := hS.last
  obtain ⟨lv, rv, he, hl, hr⟩ := id hC
  simp at he
  obtain ⟨rfl, rfl, rfl, rfl, rfl⟩ := he
  obtain ⟨db, doff, capl, rfl, hc1, hc2, ⟨cs, k1, k2, k3⟩, hrest⟩ := hl.head
  obtain ⟨aor, capr, rfl⟩ := hr.shape
  have hsz := bytes_len gap
  obtain ⟨W, hW⟩ : ∃ W, W = w.drew := ⟨_, rfl⟩
  have hA1 := hA.more (up_drew w)
  rw [← hW] at hA1
  obtain ⟨kk, kn, kb, um, kt, ui, ur, rfl, ⟨x1, x2, x3, rfl⟩, ⟨y1, y2, y3, rfl⟩, ⟨z1, z2, z3, rfl⟩, e0, e1, e2, e3, e4, e5, e6⟩ := dat_cells k1 k2 k3 hA1.up
  obtain ⟨W1, hW1⟩ : ∃ W1, W1 = W.alloc (.cells #[.int .i64 kk, .int .i64 kn, .bool kb, .slice x1 x2 x3, .string kt, .slice y1 y2 y3, .slice z1 z2 z3] 32) := ⟨_, rfl⟩
  have zW : W1.heap.size = W.heap.size + 1 := by rw [hW1, World.size_alloc]
  have bx := heap_alloc_new W (.cells #[.int .i64 kk, .int .i64 kn, .bool kb, .slice x1 x2 x3, .string kt, .slice y1 y2 y3, .slice z1 z2 z3] 32)
  have hA2 := hA1.more (up_alloc W (.cells #[.int .i64 kk, .int .i64 kn, .bool kb, .slice x1 x2 x3, .string kt, .slice y1 y2 y3, .slice z1 z2 z3] 32))
  have j1 := hA2.cell.2.2.1
  rw [← hW1] at hA2
  have KP := put_last w0 tb out σ g cap _ _ _ _ _ [gap] 1 W1 hA2 (by simp [flat]; omega) (by simp)
  simp only [List.map_cons, List.map_nil, List.length_cons, List.length_nil, Nat.zero_add] at KP
  rw [zW, hW1] at KP
  have KD := fun (W5 : World) (h5 : TS w0 tb (out ++ flat [gap]) (σ ++ [⟨H, sh, ⟨#[32]⟩, L', R, fin⟩]) W5) => datum_any w0 tb (out ++ flat [gap]) (σ ++ [⟨H, sh, ⟨#[32]⟩, L', R, fin⟩]) sh W5 H d _ _ _ _ _ _ _ h5 htab (by simp [flat]; omega) (by simp; omega) k3
  have hE : ∀ w', Told w0 tb (out ++ flat [gap]) (σ ++ [⟨H, sh, ⟨#[32]⟩, L', R, fin⟩]) sh H d w' → GoneOn w0 tb out (σ ++ [⟨H, sh, gap, d :: L', R, fin⟩]) w' := fun w' hT => by
    obtain ⟨o2, s2, t1, t2, t3⟩ := hT
    refine ⟨o2, s2, t1, ?_, ?_⟩
    · rw [t2, pendA_snoc, pendA_snoc]
      simp [flat, pendR, its]
    · rw [wtA_snoc] at t3 ⊢
      simp [wtR] at t3 ⊢
      omega
  have hlt1 := hA1.lt
  obtain ⟨c0, c1, c2, c3, c4, c5⟩ := hA.cell
  obtain ⟨i0, i1, i2, i3, i4, i5⟩ := hA1.cell
  have hcap := hA.hcap
  have hmax := hA.hmax
  have HP := hide KP
  have HD := hide KD
  have HE := hide hE
  have HX := hide bx
  have HLT := hide hlt1
  have HRow := hide (And.intro hrest hr)
  generalize hhw : howI sh = hw at *
  have HHW := hide hhw
  clear hhw
  obtain ⟨n, hn⟩ : ∃ n, n = σ.length := ⟨_, rfl⟩
  rw [← hn] at c0 c1 c2 c3 c4 c5 hcap hσ i0 i1 i2 i3 i4 i5 j1
  obtain ⟨lL, hlL⟩ : ∃ lL, lL = L'.length := ⟨_, rfl⟩
  rw [← hlL] at HP c3 i3 hc1 hLl
  have HN := hide (And.intro hn hlL)
  have HWW := hide hW
  clear KP KD hE bx hS hA hA1 hA2 hl hr hC hn hlL hlen hsz hlt1 hrest k1 k2 k3 zW hW1 htab
  clear hW
  have hlt : (n : Int) < (n : Int) + 1 := by omega
  have hnI : (n : Int) + 1 - 1 = n := by omega
  have hlI : (0 : Int) < (lL : Int) + 1 := by omega
  go_enter Tryz.func24, Tryz.ntmps24
  go_wp2
  go_region
  rw [← HWW.out]
  clear c0 c1 c2 c3 c4 c5
  go_wp2_with (go_at_call 38; refine HP.out.mono ?_; rintro e w3 ⟨rfl, h3, hk3⟩)
  obtain ⟨m0, m1, m2, m3, m4, m5⟩ := h3.cell
  have f1 := h3.free (σ.length * 5 + 1)
  have f2 := h3.free (σ.length * 5 + 2)
  have bx := hk3.2 W.heap.size _ 32 _ (by have := HLT.out.2; omega) (by decide) HX.out
  obtain ⟨n0, n1, n2, n3, n4, n5, n6⟩ := cells7 bx
  rw [← HN.out.1] at m0 m1 m2 m3 m4 m5 f1 f2

  have HBX := hide bx
  have H3 := hide h3
  clear i0 i1 i2 i3 i4 i5 e0 e1 e2 e3 e4 e5 e6 j1 bx h3 hk3 HP
  by_cases hc : capl = 1
  · have hl0 : lL = 0 := by omega
    have HL0 := hide hl0
    subst hc
    subst hl0
    go_region
    have h5 := (H3.out.put (b := .string ⟨#[32]⟩)).1
    have h6 := (h5.put (b := .slice (some ⟨db, doff, none⟩) 0 0)).2.1
    have h7 := h6.more (up_drew _)
    have hne : W.heap.size ≠ g := by have := HLT.out.1; omega
    have bx7 : ((w3.setCell ⟨g, σ.length * 5 + 1, none⟩ (.string ⟨#[32]⟩)).setCell ⟨g, σ.length * 5 + 2, none⟩ (.slice (some ⟨db, doff, none⟩) 0 0)).drew.heap[W.heap.size]? = some (.cells #[.int .i64 kk, .int .i64 kn, .bool kb, .slice x1 x2 x3, .string kt, .slice y1 y2 y3, .slice z1 z2 z3] 32 (0, 0)) := (heap_setCell_other _ _ _ _ hne).trans ((heap_setCell_other _ _ _ _ hne).trans HBX.out)
    have hTS : TS w0 tb (out ++ flat [gap]) (σ ++ [⟨H, sh, ⟨#[32]⟩, L', R, fin⟩]) _ := h7.ts ⟨.slice (some ⟨db, doff, none⟩) 0 0, .slice aor R.length capr, by simp [HHW.out], by have e9 := HN.out.2; have := HRow.out.1 (some ⟨db, doff, none⟩) 0 (by omega) (by omega) (.inl e9.symm); rw [← e9] at this; exact this, HRow.out.2⟩
    have m1 := h7.cell.2.1
    rw [← HN.out.1] at m1 bx7 hTS
    clear m0 m2 m3 m4 m5 n0 n1 n2 n3 n4 n5 n6 f1 f2 h5 h6 h7
    generalize ((w3.setCell ⟨g, n * 5 + 1, none⟩ (.string ⟨#[32]⟩)).setCell ⟨g, n * 5 + 2, none⟩ (.slice (some ⟨db, doff, none⟩) 0 0)).drew = W5 at *
    obtain ⟨n0, n1, n2, n3, n4, n5, n6⟩ := cells7 bx7
    have HTS := hide hTS
    clear hTS bx7
    go_wp2
    go_region_with (go_at_call 23; refine (HD.out _ (HTS.out.more (up_drew _))).mono ?_; rintro e w9 ⟨rfl, h9⟩)
    all_goals (go_wp2; go_end0; exact ⟨rfl, HE.out _ h9⟩)
  · have hcI : (1 : Int) ≤ (capl : Int) := by omega
    go_region
    have h5 := (H3.out.put (b := .string ⟨#[32]⟩)).1
    have h6 := (h5.put (b := .slice (some ⟨db, doff + 7, none⟩) lL (capl - 1))).2.1
    have h7 := h6.more (up_drew _)
    have hne : W.heap.size ≠ g := by have := HLT.out.1; omega
    have bx7 : ((w3.setCell ⟨g, σ.length * 5 + 1, none⟩ (.string ⟨#[32]⟩)).setCell ⟨g, σ.length * 5 + 2, none⟩ (.slice (some ⟨db, doff + 7, none⟩) lL (capl - 1))).drew.heap[W.heap.size]? = some (.cells #[.int .i64 kk, .int .i64 kn, .bool kb, .slice x1 x2 x3, .string kt, .slice y1 y2 y3, .slice z1 z2 z3] 32 (0, 0)) := (heap_setCell_other _ _ _ _ hne).trans ((heap_setCell_other _ _ _ _ hne).trans HBX.out)
    have hTS : TS w0 tb (out ++ flat [gap]) (σ ++ [⟨H, sh, ⟨#[32]⟩, L', R, fin⟩]) _ := h7.ts ⟨.slice (some ⟨db, doff + 7, none⟩) lL (capl - 1), .slice aor R.length capr, by simp [HHW.out], by have e9 := HN.out.2; have := HRow.out.1 (some ⟨db, doff + 7, none⟩) (capl - 1) (by omega) (by omega) (.inr rfl); rw [← e9] at this; exact this, HRow.out.2⟩
    have m1 := h7.cell.2.1
    rw [← HN.out.1] at m1 bx7 hTS
    clear m0 m2 m3 m4 m5 n0 n1 n2 n3 n4 n5 n6 f1 f2 h5 h6 h7
    generalize ((w3.setCell ⟨g, n * 5 + 1, none⟩ (.string ⟨#[32]⟩)).setCell ⟨g, n * 5 + 2, none⟩ (.slice (some ⟨db, doff + 7, none⟩) lL (capl - 1))).drew = W5 at *
    obtain ⟨n0, n1, n2, n3, n4, n5, n6⟩ := cells7 bx7
    have HTS := hide hTS
    clear hTS bx7
    go_wp2
    go_region_with (go_at_call 23; refine (HD.out _ (HTS.out.more (up_drew _))).mono ?_; rintro e w9 ⟨rfl, h9⟩)
    all_goals (go_wp2; go_end0; exact ⟨rfl, HE.out _ h9⟩)

end Go.Proofs.YtfplplobhmacoaaGreatDoor
