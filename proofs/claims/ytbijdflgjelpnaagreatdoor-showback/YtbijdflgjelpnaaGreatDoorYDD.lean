/-
  What is proved here: the last row of package show's teller: read, turned, taken away; no walk. package show's goOn. package show's goOn, at an item. package show's goOn, at what stands behind a dot; goOn, whatever is left. package show's told, Write, Display: a datum as the text that it is. package show's Write and Display; tandemlaw06.awake.
-/
import Derived.Test.YtbijdflgjelpnaaGreatDoorYC
import Derived.Deep.RegionHeld3
import Derived.Deep.RegionWith
import Derived.Deep.LoopGhost
namespace Go.Proofs.YtbijdflgjelpnaaGreatDoor
open Go Go.RowKit

/-- The last row of a teller, cell by cell. -/
structure LastAt (w0 : World) (tb : Nat) (out : List UInt8) (σ : List RowP) (g cap : Nat) (a0 a1 a2 a3 a4 : Value) (w : World) : Prop where
  up : Up w0 w
  tell : TellAt w0.heap.size tb out (.slice (some ⟨g, 0, none⟩) (σ.length + 1) cap) w
  hg : w0.heap.size ≤ g
  hcap : σ.length + 1 ≤ cap
  hmax : cap ≤ maxLen
  blk : ∃ cur ys, w.heap[g]? = some (.cells cur 80 (0, 0)) ∧ cur.size = cap * 5 ∧ RowsC w0 σ ys ∧ cur.toList.take ((σ.length + 1) * 5) = ys ++ [a0, a1, a2, a3, a4]

theorem TS.last {w0 : World} {tb : Nat} {out : List UInt8} {σ : List RowP} {ρ : RowP} {w : World} (h : TS w0 tb out (σ ++ [ρ]) w) :
    ∃ g cap a0 a1 a2 a3 a4, LastAt w0 tb out σ g cap a0 a1 a2 a3 a4 w ∧ RowC w0 ρ [a0, a1, a2, a3, a4] := by
  obtain ⟨h0, rv, xs, h1, h2, h3⟩ := h
  obtain ⟨ys, cs, rfl, h4, h5⟩ := h3.last
  obtain ⟨lv, rv', rfl, h6⟩ := id h5
  rw [List.length_append, List.length_singleton] at h2
  rcases h2.2 with ⟨_, e⟩ | ⟨g, cap, cur, rfl, e2, e3, e4, e5, e6, e7⟩
  · omega
  · exact ⟨g, cap, _, _, _, _, _, ⟨h0, h1, e2, e4, e5, cur, ys, e3, e6, h4, e7⟩, h5⟩

theorem LastAt.ts {w0 : World} {tb : Nat} {out : List UInt8} {σ : List RowP} {ρ : RowP} {g cap : Nat} {a0 a1 a2 a3 a4 : Value} {w : World} (h : LastAt w0 tb out σ g cap a0 a1 a2 a3 a4 w) (hc : RowC w0 ρ [a0, a1, a2, a3, a4]) : TS w0 tb out (σ ++ [ρ]) w := by
  obtain ⟨cur, ys, e3, e6, h4, e7⟩ := h.blk
  refine ⟨h.up, _, ys ++ [a0, a1, a2, a3, a4], h.tell, ?_, h4.snoc hc⟩
  rw [List.length_append, List.length_singleton]
  refine ⟨by rw [List.length_append, h4.len]; simp; omega, .inr ⟨g, cap, cur, rfl, h.hg, e3, h.hcap, h.hmax, e6, e7⟩⟩

theorem LastAt.cell {w0 : World} {tb : Nat} {out : List UInt8} {σ : List RowP} {g cap : Nat} {a0 a1 a2 a3 a4 : Value} {w : World} (h : LastAt w0 tb out σ g cap a0 a1 a2 a3 a4 w) :
    w.cell? ⟨tb, 2, none⟩ = some (.slice (some ⟨g, 0, none⟩) (σ.length + 1) cap) ∧ w.cell? ⟨g, σ.length * 5, none⟩ = some a0 ∧ w.cell? ⟨g, σ.length * 5 + 1, none⟩ = some a1 ∧ w.cell? ⟨g, σ.length * 5 + 2, none⟩ = some a2 ∧ w.cell? ⟨g, σ.length * 5 + 3, none⟩ = some a3 ∧ w.cell? ⟨g, σ.length * 5 + 4, none⟩ = some a4 := by
  obtain ⟨cur, ys, e3, e6, h4, e7⟩ := h.blk
  have hl := h4.len
  have key : ∀ j, j < 5 → w.cell? ⟨g, σ.length * 5 + j, none⟩ = [a0, a1, a2, a3, a4][j]? := fun j hj => by
    rw [cell_of_row w g _ cur _ _ e3, ← Array.getElem?_toList]
    have := congrArg (fun l : List Value => l[σ.length * 5 + j]?) e7
    simp only [List.getElem?_take] at this
    rw [if_pos (by omega), List.getElem?_append_right (by omega), hl] at this
    rw [this]
    congr 1
    omega
  exact ⟨h.tell.rows, key 0 (by decide), key 1 (by decide), key 2 (by decide), key 3 (by decide), key 4 (by decide)⟩

theorem LastAt.free {w0 : World} {tb : Nat} {out : List UInt8} {σ : List RowP} {g cap : Nat} {a0 a1 a2 a3 a4 : Value} {w : World} (h : LastAt w0 tb out σ g cap a0 a1 a2 a3 a4 w) (i : Nat) : w.frozen? ⟨g, i, none⟩ = false := by
  obtain ⟨cur, ys, e3, e6, h4, e7⟩ := h.blk
  exact frozen_of_row w g i cur _ e3

theorem LastAt.lt {w0 : World} {tb : Nat} {out : List UInt8} {σ : List RowP} {g cap : Nat} {a0 a1 a2 a3 a4 : Value} {w : World} (h : LastAt w0 tb out σ g cap a0 a1 a2 a3 a4 w) : g < w.heap.size ∧ tb < w.heap.size := by
  obtain ⟨cur, ys, e3, e6, h4, e7⟩ := h.blk
  exact ⟨(Array.getElem?_eq_some_iff.1 e3).1, h.tell.lt⟩

/-- Nothing that was there has turned. -/
theorem LastAt.more {w0 : World} {tb : Nat} {out : List UInt8} {σ : List RowP} {g cap : Nat} {a0 a1 a2 a3 a4 : Value} {w w' : World} (h : LastAt w0 tb out σ g cap a0 a1 a2 a3 a4 w) (u : Up w w') : LastAt w0 tb out σ g cap a0 a1 a2 a3 a4 w' := by
  obtain ⟨cur, ys, e3, e6, h4, e7⟩ := h.blk
  exact ⟨h.up.tr u, h.tell.keep (fun k c e _ h => u.old h), h.hg, h.hcap, h.hmax, cur, ys, u.old e3, e6, h4, e7⟩

theorem set_row {ys : List Value} {a b : Value} {cs ds : List Value} {cur : Array Value} {N i : Nat} (h : cur.toList.take N = ys ++ (cs ++ a :: ds)) (hi : i = ys.length + cs.length) (_hN : i < N) : (cur.setIfInBounds i b).toList.take N = ys ++ (cs ++ b :: ds) := by
  rw [Array.toList_setIfInBounds, List.take_set, h, hi, List.set_append_right _ _ (by omega), List.set_append_right _ _ (by omega)]
  simp

/-- One cell of the last row is stored anew. -/
theorem LastAt.put {w0 : World} {tb : Nat} {out : List UInt8} {σ : List RowP} {g cap : Nat} {a0 a1 a2 a3 a4 b : Value} {w : World} (h : LastAt w0 tb out σ g cap a0 a1 a2 a3 a4 w) :
    LastAt w0 tb out σ g cap a0 b a2 a3 a4 (w.setCell ⟨g, σ.length * 5 + 1, none⟩ b) ∧ LastAt w0 tb out σ g cap a0 a1 b a3 a4 (w.setCell ⟨g, σ.length * 5 + 2, none⟩ b) ∧ LastAt w0 tb out σ g cap a0 a1 a2 b a4 (w.setCell ⟨g, σ.length * 5 + 3, none⟩ b) := by
  obtain ⟨cur, ys, e3, e6, h4, e7⟩ := h.blk
  have hl := h4.len
  have hne : ∀ {k : Nat} {c : Array Value} {E : TypeId}, E ≠ 80 → w.heap[k]? = some (.cells c E (0, 0)) → k ≠ g := fun hE hk e => by
    rw [e, e3] at hk
    simp at hk
    exact hE hk.2.symm
  have hT : ∀ i, TellAt w0.heap.size tb out (.slice (some ⟨g, 0, none⟩) (σ.length + 1) cap) (w.setCell ⟨g, i, none⟩ b) := fun i => h.tell.keep fun k c e he hk => (heap_setCell_other _ _ _ _ (hne (by rcases he with rfl | rfl <;> decide) hk)).trans hk
  have hU : ∀ i, Up w0 (w.setCell ⟨g, i, none⟩ b) := fun i => Below.setCell (p := ⟨g, i, none⟩) h.up h.hg _
  refine ⟨⟨hU _, hT _, h.hg, h.hcap, h.hmax, _, ys, heap_setCell_same w g _ cur _ _ e3, by simpa using e6, h4, ?_⟩, ⟨hU _, hT _, h.hg, h.hcap, h.hmax, _, ys, heap_setCell_same w g _ cur _ _ e3, by simpa using e6, h4, ?_⟩, ⟨hU _, hT _, h.hg, h.hcap, h.hmax, _, ys, heap_setCell_same w g _ cur _ _ e3, by simpa using e6, h4, ?_⟩⟩
  · exact set_row (cs := [a0]) e7 (by rw [hl]; rfl) (by omega)
  · exact set_row (cs := [a0, a1]) e7 (by rw [hl]; rfl) (by omega)
  · exact set_row (cs := [a0, a1, a2]) e7 (by rw [hl]; rfl) (by omega)

/-- The last row is taken away. -/
theorem LastAt.pop {w0 : World} {tb : Nat} {out : List UInt8} {σ : List RowP} {g cap : Nat} {a0 a1 a2 a3 a4 : Value} {w : World} (h : LastAt w0 tb out σ g cap a0 a1 a2 a3 a4 w) :
    w.frozen? ⟨tb, 2, none⟩ = false ∧ TS w0 tb out σ (w.setCell ⟨tb, 2, none⟩ (.slice (some ⟨g, 0, none⟩) σ.length cap)) := by
  obtain ⟨cur, ys, e3, e6, h4, e7⟩ := h.blk
  obtain ⟨hB, p, v, k1, k2, k3⟩ := h.tell
  have hl := h4.len
  have hne : ∀ {k : Nat} {c : Array Value} {E : TypeId}, E ≠ 58 → w.heap[k]? = some (.cells c E (0, 0)) → k ≠ tb := fun hE hk e => by
    rw [e, k1] at hk
    simp at hk
    exact hE hk.2.symm
  refine ⟨frozen_of_row w tb 2 _ _ k1, Below.setCell (p := ⟨tb, 2, none⟩) h.up hB _, _, ys, ⟨hB, p, v, heap_setCell_same w tb 2 _ _ _ k1, k2, ownsRow_blk k3 (fun k c hk => (heap_setCell_other _ _ _ _ (hne (by decide) hk)).trans hk)⟩, ?_, h4⟩
  refine ⟨hl, .inr ⟨g, cap, cur, rfl, h.hg, (heap_setCell_other _ _ _ _ (hne (by decide) e3)).trans e3, by have := h.hcap; omega, h.hmax, e6, ?_⟩⟩
  have := congrArg (List.take (σ.length * 5)) e7
  have e8 : ys.take (σ.length * 5) = ys := List.take_of_length_le (by omega)
  rw [List.take_take, Nat.min_eq_left (by omega), List.take_append_of_le_length (by omega), e8] at this
  exact this

/-- What is told, and what is left, are together as they were; less is left. -/
def GoneOn (w0 : World) (tb : Nat) (out : List UInt8) (σ : List RowP) (w' : World) : Prop :=
  ∃ out' σ', TS w0 tb out' σ' w' ∧ out' ++ pendA σ' = out ++ pendA σ ∧ wtA σ' < wtA σ

theorem LastAt.drop2 {w0 : World} {tb : Nat} {out : List UInt8} {σ : List RowP} {g cap : Nat} {a0 a1 a2 a3 a4 : Value} {w : World} (h : LastAt w0 tb out σ g cap a0 a1 a2 a3 a4 w) :
    w.drew.frozen? ⟨tb, 2, none⟩ = false ∧ TS w0 tb out σ (w.drew.setCell ⟨tb, 2, none⟩ (.slice (some ⟨g, 0, none⟩) σ.length cap)) := (h.more (up_drew w)).pop

set_option maxHeartbeats 4000000 in
set_option maxRecDepth 100000 in
/-- Nothing is left in the innermost row. -/
theorem goOn_end (w0 : World) (tb : Nat) (out : List UInt8) (σ : List RowP) (H : Nat) (sh : Bool) (gap fin : ByteArray) (w : World) (hS : TS w0 tb out (σ ++ [⟨H, sh, gap, [], [], fin⟩]) w) (hlen : out.length + fin.size ≤ 140737488355328) (hσ : σ.length ≤ 1000000000) :
    Calls Tryz.prog 24 #[.pointer (some ⟨tb, 0, none⟩)] w fun e w' => e = .returned (.tuple #[]) ∧ GoneOn w0 tb out (σ ++ [⟨H, sh, gap, [], [], fin⟩]) w' := by
  obtain ⟨g, cap, a0, a1, a2, a3, a4, hA, hC⟩ := hS.last
  obtain ⟨lv, rv, he, hl, hr⟩ := id hC
  simp at he
  obtain ⟨rfl, rfl, rfl, rfl, rfl⟩ := he
  obtain ⟨aol, capl, rfl⟩ := hl.shape
  obtain ⟨aor, capr, rfl⟩ := hr.shape
  obtain ⟨c0, c1, c2, c3, c4, c5⟩ := hA.cell
  have hsz := bytes_len fin
  have hcap := hA.hcap
  have hmax := hA.hmax
  have KP := fun (W : World) (hW : LastAt w0 tb out σ g cap _ _ _ _ _ W) => put_new w0 tb out (σ ++ [⟨H, sh, gap, [], [], fin⟩]) [fin] 1 W (hW.ts hC) (by simp [flat]; omega) (by simp)
  simp only [List.map_cons, List.map_nil, List.length_cons, List.length_nil, Nat.zero_add] at KP
  have HP := hide KP
  have HA := hide hA
  simp only [List.length_nil] at *
  generalize howI sh = hw at *
  obtain ⟨n, hn⟩ : ∃ n, n = σ.length := ⟨_, rfl⟩
  rw [← hn] at c0 c1 c2 c3 c4 c5 hcap hσ
  have HN := hide hn
  have hlt : (n : Int) < (n : Int) + 1 := by omega
  have hnI : (n : Int) + 1 - 1 = n := by omega
  clear KP hS hA hl hr hC hn hlen hsz
  go_enter Tryz.func24, Tryz.ntmps24
  go_wp2
  go_region
  have hA1 := HA.out.more (up_drew w)
  clear c0 c1 c2 c3 c4 c5
  generalize w.drew = W at *
  obtain ⟨c0, c1, c2, c3, c4, c5⟩ := hA1.cell
  rw [← HN.out] at c0 c1 c2 c3 c4 c5
  have HA1 := hide hA1
  clear hA1
  go_wp2_with (go_at_call 38; refine (HP.out _ HA1.out).mono ?_; rintro e w3 ⟨rfl, h3, -, -⟩)
  obtain ⟨g', cap', b0, b1, b2, b3, b4, hB, hBC⟩ := h3.last
  obtain ⟨hz, hT⟩ := hB.drop2
  have d0 := hB.cell.1
  have hcap' := hB.hcap
  have hmax' := hB.hmax
  rw [← HN.out] at d0 hcap' hT
  have HT := hide hT
  clear hT hB hBC h3 c0 c1 c2 c3 c4 c5
  go_region
  go_wp2
  go_end0
  refine ⟨rfl, _, _, HT.out, ?_, ?_⟩
  · rw [pendA_snoc]
    simp [flat, pendR, its, dotW]
  · rw [wtA_snoc]
    simp [wtR]

/-- show's put, with the last row in sight. -/
theorem put_last (w0 : World) (tb : Nat) (out : List UInt8) (σ : List RowP) (g cap : Nat) (a0 a1 a2 a3 a4 : Value) (l : List ByteArray) (k : Nat) (w : World) (h : LastAt w0 tb out σ g cap a0 a1 a2 a3 a4 w) (hlen : out.length + (flat l).length ≤ 140737488355328) (hl : l.length ≤ 1000) :
    Calls Tryz.prog 38 #[.pointer (some ⟨tb, 0, none⟩), .slice (some ⟨w.heap.size, 0, none⟩) l.length k] (w.alloc (.cells (l.map Value.string).toArray 9)) fun e w' => e = .returned (.tuple #[]) ∧ LastAt w0 tb (out ++ flat l) σ g cap a0 a1 a2 a3 a4 w' ∧ Kp tb w w' := by
  have h1 := h.more (up_alloc w (.cells (l.map Value.string).toArray 9))
  refine (put_any _ tb out _ l _ _ h1.tell (pcs_new w l k) hlen h1.up.size hl).mono ?_
  rintro e w' ⟨rfl, hT, hb, hk⟩
  obtain ⟨cur, ys, e3, e6, h4, e7⟩ := h1.blk
  refine ⟨rfl, ⟨h1.up.trans hb, hT, h1.hg, h1.hcap, h1.hmax, cur, ys, hk.2 _ _ _ _ (fun e => ?_) (by decide) e3, e6, h4, e7⟩, ((Kp.refl tb w).alloc _).trans hk⟩
  obtain ⟨c, hc⟩ := h1.tell.block
  rw [e, hc] at e3
  simp at e3

set_option maxHeartbeats 4000000 in
set_option maxRecDepth 100000 in
theorem goOn_left (w0 : World) (tb : Nat) (out : List UInt8) (σ : List RowP) (H : Nat) (sh : Bool) (gap fin : ByteArray) (d : Tr H) (L' R : List (Tr H)) (w : World) (hS : TS w0 tb out (σ ++ [⟨H, sh, gap, d :: L', R, fin⟩]) w) (htab : Tab w0) (hlen : out.length + gap.size + 200 * bk H d + 300 ≤ 140737488355328) (hσ : σ.length ≤ 100000000) (hLl : L'.length ≤ 100000000) :
    Calls Tryz.prog 24 #[.pointer (some ⟨tb, 0, none⟩)] w fun e w' => e = .returned (.tuple #[]) ∧ GoneOn w0 tb out (σ ++ [⟨H, sh, gap, d :: L', R, fin⟩]) w' := by
  obtain ⟨g, cap, a0, a1, a2, a3, a4, hA, hC⟩ := hS.last
  obtain ⟨lv, rv, he, hl, hr⟩ := id hC
  simp at he
  obtain ⟨rfl, rfl, rfl, rfl, rfl⟩ := he
  obtain ⟨db, doff, capl, rfl, hc1, hc2, ⟨cs, k1, k2, k3⟩, hrest⟩ := hl.head
  obtain ⟨aor, capr, rfl⟩ := hr.shape
  have hsz := bytes_len gap
  obtain ⟨W, hW⟩ : ∃ W, W = w.drew := ⟨_, rfl⟩
  have hA1 := hA.more (up_drew w)
  rw [← hW] at hA1
  obtain ⟨kk, kn, kb, um, kt, ui, ur, rfl, ⟨x1, x2, x3, rfl⟩, ⟨y1, y2, y3, rfl⟩, ⟨z1, z2, z3, rfl⟩, e0, e1, e2, e3, e4, e5, e6⟩ := dat_cells k1 k2 k3 hA1.up
  obtain ⟨W1, hW1⟩ : ∃ W1, W1 = W.alloc (.cells #[.int .i64 kk, .int .i64 kn, .bool kb, .slice x1 x2 x3, .string kt, .slice y1 y2 y3, .slice z1 z2 z3] 32) := ⟨_, rfl⟩
  have zW : W1.heap.size = W.heap.size + 1 := by rw [hW1, World.size_alloc]
  have bx := heap_alloc_new W (.cells #[.int .i64 kk, .int .i64 kn, .bool kb, .slice x1 x2 x3, .string kt, .slice y1 y2 y3, .slice z1 z2 z3] 32)
  have hA2 := hA1.more (up_alloc W (.cells #[.int .i64 kk, .int .i64 kn, .bool kb, .slice x1 x2 x3, .string kt, .slice y1 y2 y3, .slice z1 z2 z3] 32))
  have j1 := hA2.cell.2.2.1
  rw [← hW1] at hA2
  have KP := put_last w0 tb out σ g cap _ _ _ _ _ [gap] 1 W1 hA2 (by simp [flat]; omega) (by simp)
  simp only [List.map_cons, List.map_nil, List.length_cons, List.length_nil, Nat.zero_add] at KP
  rw [zW, hW1] at KP
  have KD := fun (W5 : World) (h5 : TS w0 tb (out ++ flat [gap]) (σ ++ [⟨H, sh, ⟨#[32]⟩, L', R, fin⟩]) W5) => datum_any w0 tb (out ++ flat [gap]) (σ ++ [⟨H, sh, ⟨#[32]⟩, L', R, fin⟩]) sh W5 H d _ _ _ _ _ _ _ h5 htab (by simp [flat]; omega) (by simp; omega) k3
  have hE : ∀ w', Told w0 tb (out ++ flat [gap]) (σ ++ [⟨H, sh, ⟨#[32]⟩, L', R, fin⟩]) sh H d w' → GoneOn w0 tb out (σ ++ [⟨H, sh, gap, d :: L', R, fin⟩]) w' := fun w' hT => by
    obtain ⟨o2, s2, t1, t2, t3⟩ := hT
    refine ⟨o2, s2, t1, ?_, ?_⟩
    · rw [t2, pendA_snoc, pendA_snoc]
      simp [flat, pendR, its]
    · rw [wtA_snoc] at t3 ⊢
      simp [wtR] at t3 ⊢
      omega
  have hlt1 := hA1.lt
  obtain ⟨c0, c1, c2, c3, c4, c5⟩ := hA.cell
  obtain ⟨i0, i1, i2, i3, i4, i5⟩ := hA1.cell
  have hcap := hA.hcap
  have hmax := hA.hmax
  have HP := hide KP
  have HD := hide KD
  have HE := hide hE
  have HX := hide bx
  have HLT := hide hlt1
  have HRow := hide (And.intro hrest hr)
  generalize hhw : howI sh = hw at *
  have HHW := hide hhw
  clear hhw
  obtain ⟨n, hn⟩ : ∃ n, n = σ.length := ⟨_, rfl⟩
  rw [← hn] at c0 c1 c2 c3 c4 c5 hcap hσ i0 i1 i2 i3 i4 i5 j1
  obtain ⟨lL, hlL⟩ : ∃ lL, lL = L'.length := ⟨_, rfl⟩
  rw [← hlL] at HP c3 i3 hc1 hLl
  have HN := hide (And.intro hn hlL)
  have HWW := hide hW
  clear KP KD hE bx hS hA hA1 hA2 hl hr hC hn hlL hlen hsz hlt1 hrest k1 k2 k3 zW hW1 htab
  clear hW
  have hlt : (n : Int) < (n : Int) + 1 := by omega
  have hnI : (n : Int) + 1 - 1 = n := by omega
  have hlI : (0 : Int) < (lL : Int) + 1 := by omega
  go_enter Tryz.func24, Tryz.ntmps24
  go_wp2
  go_region
  rw [← HWW.out]
  clear c0 c1 c2 c3 c4 c5
  go_wp2_with (go_at_call 38; refine HP.out.mono ?_; rintro e w3 ⟨rfl, h3, hk3⟩)
  obtain ⟨m0, m1, m2, m3, m4, m5⟩ := h3.cell
  have f1 := h3.free (σ.length * 5 + 1)
  have f2 := h3.free (σ.length * 5 + 2)
  have bx := hk3.2 W.heap.size _ 32 _ (by have := HLT.out.2; omega) (by decide) HX.out
  obtain ⟨n0, n1, n2, n3, n4, n5, n6⟩ := cells7 bx
  rw [← HN.out.1] at m0 m1 m2 m3 m4 m5 f1 f2

  have HBX := hide bx
  have H3 := hide h3
  clear i0 i1 i2 i3 i4 i5 e0 e1 e2 e3 e4 e5 e6 j1 bx h3 hk3 HP
  by_cases hc : capl = 1
  · have hl0 : lL = 0 := by omega
    have HL0 := hide hl0
    subst hc
    subst hl0
    go_region
    have h5 := (H3.out.put (b := .string ⟨#[32]⟩)).1
    have h6 := (h5.put (b := .slice (some ⟨db, doff, none⟩) 0 0)).2.1
    have h7 := h6.more (up_drew _)
    have hne : W.heap.size ≠ g := by have := HLT.out.1; omega
    have bx7 : ((w3.setCell ⟨g, σ.length * 5 + 1, none⟩ (.string ⟨#[32]⟩)).setCell ⟨g, σ.length * 5 + 2, none⟩ (.slice (some ⟨db, doff, none⟩) 0 0)).drew.heap[W.heap.size]? = some (.cells #[.int .i64 kk, .int .i64 kn, .bool kb, .slice x1 x2 x3, .string kt, .slice y1 y2 y3, .slice z1 z2 z3] 32 (0, 0)) := (heap_setCell_other _ _ _ _ hne).trans ((heap_setCell_other _ _ _ _ hne).trans HBX.out)
    have hTS : TS w0 tb (out ++ flat [gap]) (σ ++ [⟨H, sh, ⟨#[32]⟩, L', R, fin⟩]) _ := h7.ts ⟨.slice (some ⟨db, doff, none⟩) 0 0, .slice aor R.length capr, by simp [HHW.out], by have e9 := HN.out.2; have := HRow.out.1 (some ⟨db, doff, none⟩) 0 (by omega) (by omega) (.inl e9.symm); rw [← e9] at this; exact this, HRow.out.2⟩
    have m1 := h7.cell.2.1
    rw [← HN.out.1] at m1 bx7 hTS
    clear m0 m2 m3 m4 m5 n0 n1 n2 n3 n4 n5 n6 f1 f2 h5 h6 h7
    generalize ((w3.setCell ⟨g, n * 5 + 1, none⟩ (.string ⟨#[32]⟩)).setCell ⟨g, n * 5 + 2, none⟩ (.slice (some ⟨db, doff, none⟩) 0 0)).drew = W5 at *
    obtain ⟨n0, n1, n2, n3, n4, n5, n6⟩ := cells7 bx7
    have HTS := hide hTS
    clear hTS bx7
    go_wp2
    go_region_with (go_at_call 23; refine (HD.out _ (HTS.out.more (up_drew _))).mono ?_; rintro e w9 ⟨rfl, h9⟩)
    all_goals (go_wp2; go_end0; exact ⟨rfl, HE.out _ h9⟩)
  · have hcI : (1 : Int) ≤ (capl : Int) := by omega
    go_region
    have h5 := (H3.out.put (b := .string ⟨#[32]⟩)).1
    have h6 := (h5.put (b := .slice (some ⟨db, doff + 7, none⟩) lL (capl - 1))).2.1
    have h7 := h6.more (up_drew _)
    have hne : W.heap.size ≠ g := by have := HLT.out.1; omega
    have bx7 : ((w3.setCell ⟨g, σ.length * 5 + 1, none⟩ (.string ⟨#[32]⟩)).setCell ⟨g, σ.length * 5 + 2, none⟩ (.slice (some ⟨db, doff + 7, none⟩) lL (capl - 1))).drew.heap[W.heap.size]? = some (.cells #[.int .i64 kk, .int .i64 kn, .bool kb, .slice x1 x2 x3, .string kt, .slice y1 y2 y3, .slice z1 z2 z3] 32 (0, 0)) := (heap_setCell_other _ _ _ _ hne).trans ((heap_setCell_other _ _ _ _ hne).trans HBX.out)
    have hTS : TS w0 tb (out ++ flat [gap]) (σ ++ [⟨H, sh, ⟨#[32]⟩, L', R, fin⟩]) _ := h7.ts ⟨.slice (some ⟨db, doff + 7, none⟩) lL (capl - 1), .slice aor R.length capr, by simp [HHW.out], by have e9 := HN.out.2; have := HRow.out.1 (some ⟨db, doff + 7, none⟩) (capl - 1) (by omega) (by omega) (.inr rfl); rw [← e9] at this; exact this, HRow.out.2⟩
    have m1 := h7.cell.2.1
    rw [← HN.out.1] at m1 bx7 hTS
    clear m0 m2 m3 m4 m5 n0 n1 n2 n3 n4 n5 n6 f1 f2 h5 h6 h7
    generalize ((w3.setCell ⟨g, n * 5 + 1, none⟩ (.string ⟨#[32]⟩)).setCell ⟨g, n * 5 + 2, none⟩ (.slice (some ⟨db, doff + 7, none⟩) lL (capl - 1))).drew = W5 at *
    obtain ⟨n0, n1, n2, n3, n4, n5, n6⟩ := cells7 bx7
    have HTS := hide hTS
    clear hTS bx7
    go_wp2
    go_region_with (go_at_call 23; refine (HD.out _ (HTS.out.more (up_drew _))).mono ?_; rintro e w9 ⟨rfl, h9⟩)
    all_goals (go_wp2; go_end0; exact ⟨rfl, HE.out _ h9⟩)

set_option maxHeartbeats 4000000 in
set_option maxRecDepth 100000 in
theorem goOn_rest (w0 : World) (tb : Nat) (out : List UInt8) (σ : List RowP) (H : Nat) (sh : Bool) (gap fin : ByteArray) (d : Tr H) (R' : List (Tr H)) (w : World) (hS : TS w0 tb out (σ ++ [⟨H, sh, gap, [], d :: R', fin⟩]) w) (htab : Tab w0) (hlen : out.length + 200 * bk H d + 310 ≤ 140737488355328) (hσ : σ.length ≤ 100000000) (hRl : R'.length ≤ 100000000) :
    Calls Tryz.prog 24 #[.pointer (some ⟨tb, 0, none⟩)] w fun e w' => e = .returned (.tuple #[]) ∧ GoneOn w0 tb out (σ ++ [⟨H, sh, gap, [], d :: R', fin⟩]) w' := by
  obtain ⟨g, cap, a0, a1, a2, a3, a4, hA, hC⟩ := hS.last
  obtain ⟨lv, rv, he, hl, hr⟩ := id hC
  simp at he
  obtain ⟨rfl, rfl, rfl, rfl, rfl⟩ := he
  obtain ⟨aol, capl, rfl⟩ := hl.shape
  obtain ⟨db, doff, capr, rfl, hc1, hc2, ⟨cs, k1, k2, k3⟩, -⟩ := hr.head
  obtain ⟨W, hW⟩ : ∃ W, W = w.drew := ⟨_, rfl⟩
  have hA1 := hA.more (up_drew w)
  rw [← hW] at hA1
  obtain ⟨kk, kn, kb, um, kt, ui, ur, rfl, ⟨x1, x2, x3, rfl⟩, ⟨y1, y2, y3, rfl⟩, ⟨z1, z2, z3, rfl⟩, e0, e1, e2, e3, e4, e5, e6⟩ := dat_cells k1 k2 k3 hA1.up
  obtain ⟨W1, hW1⟩ : ∃ W1, W1 = W.alloc (.cells #[.int .i64 kk, .int .i64 kn, .bool kb, .slice x1 x2 x3, .string kt, .slice y1 y2 y3, .slice z1 z2 z3] 32) := ⟨_, rfl⟩
  have zW : W1.heap.size = W.heap.size + 1 := by rw [hW1, World.size_alloc]
  have bx := heap_alloc_new W (.cells #[.int .i64 kk, .int .i64 kn, .bool kb, .slice x1 x2 x3, .string kt, .slice y1 y2 y3, .slice z1 z2 z3] 32)
  have hA2 := hA1.more (up_alloc W (.cells #[.int .i64 kk, .int .i64 kn, .bool kb, .slice x1 x2 x3, .string kt, .slice y1 y2 y3, .slice z1 z2 z3] 32))
  rw [← hW1] at hA2
  have KP := put_last w0 tb out σ g cap _ _ _ _ _ [⟨#[32, 46, 32]⟩] 1 W1 hA2 (by simp [flat]; omega) (by simp)
  simp only [List.map_cons, List.map_nil, List.length_cons, List.length_nil, Nat.zero_add] at KP
  rw [zW, hW1] at KP
  have KD := fun (W5 : World) (h5 : TS w0 tb (out ++ flat [⟨#[32, 46, 32]⟩]) (σ ++ [⟨H, sh, gap, [], [], fin⟩]) W5) => datum_any w0 tb (out ++ flat [⟨#[32, 46, 32]⟩]) (σ ++ [⟨H, sh, gap, [], [], fin⟩]) sh W5 H d _ _ _ _ _ _ _ h5 htab (by simp [flat]; omega) (by simp; omega) k3
  have hE : ∀ w', Told w0 tb (out ++ flat [⟨#[32, 46, 32]⟩]) (σ ++ [⟨H, sh, gap, [], [], fin⟩]) sh H d w' → GoneOn w0 tb out (σ ++ [⟨H, sh, gap, [], d :: R', fin⟩]) w' := fun w' hT => by
    obtain ⟨o2, s2, t1, t2, t3⟩ := hT
    refine ⟨o2, s2, t1, ?_, ?_⟩
    · rw [t2, pendA_snoc, pendA_snoc]
      simp [flat, pendR, its, dotW]
    · rw [wtA_snoc] at t3 ⊢
      simp [wtR] at t3 ⊢
      omega
  have hlt1 := hA1.lt
  obtain ⟨c0, c1, c2, c3, c4, c5⟩ := hA.cell
  obtain ⟨i0, i1, i2, i3, i4, i5⟩ := hA1.cell
  have hcap := hA.hcap
  have hmax := hA.hmax
  have HP := hide KP
  have HD := hide KD
  have HE := hide hE
  have HX := hide bx
  have HLT := hide hlt1
  have HRow := hide hl
  generalize hhw : howI sh = hw at *
  have HHW := hide hhw
  clear hhw
  obtain ⟨n, hn⟩ : ∃ n, n = σ.length := ⟨_, rfl⟩
  rw [← hn] at c0 c1 c2 c3 c4 c5 hcap hσ i0 i1 i2 i3 i4 i5
  obtain ⟨lL, hlL⟩ : ∃ lL, lL = R'.length := ⟨_, rfl⟩
  rw [← hlL] at HP c4 i4 hc1 hRl
  have HN := hide (And.intro hn hlL)
  have HWW := hide hW
  clear KP KD hE bx hS hA hA1 hA2 hl hr hC hn hlL hlen hlt1 k1 k2 k3 zW hW1 htab
  clear hW
  simp only [List.length_nil] at *
  have hlt : (n : Int) < (n : Int) + 1 := by omega
  have hnI : (n : Int) + 1 - 1 = n := by omega
  have hlI : (0 : Int) < (lL : Int) + 1 := by omega
  go_enter Tryz.func24, Tryz.ntmps24
  go_wp2
  go_region
  rw [← HWW.out]
  clear c0 c1 c2 c3 c4 c5
  go_wp2_with (go_at_call 38; refine HP.out.mono ?_; rintro e w3 ⟨rfl, h3, hk3⟩; obtain ⟨m0, m1, m2, m3, m4, m5⟩ := h3.cell; have f3 := h3.free (σ.length * 5 + 3); have bx := hk3.2 W.heap.size _ 32 _ (by have := HLT.out.2; omega) (by decide) HX.out; rw [← HN.out.1] at m0 m1 m2 m3 m4 m5 f3; have HBX := hide bx; have H3 := hide h3; clear i0 i1 i2 i3 i4 i5 e0 e1 e2 e3 e4 e5 e6 bx h3 hk3 HP)
  have h6 := (H3.out.put (b := .slice none 0 0)).2.2
  have hne : W.heap.size ≠ g := by have := HLT.out.1; omega
  have bx7 : (w3.setCell ⟨g, σ.length * 5 + 3, none⟩ (.slice none 0 0)).heap[W.heap.size]? = some (.cells #[.int .i64 kk, .int .i64 kn, .bool kb, .slice x1 x2 x3, .string kt, .slice y1 y2 y3, .slice z1 z2 z3] 32 (0, 0)) := (heap_setCell_other _ _ _ _ hne).trans HBX.out
  have hTS : TS w0 tb (out ++ flat [⟨#[32, 46, 32]⟩]) (σ ++ [⟨H, sh, gap, [], [], fin⟩]) _ := h6.ts ⟨.slice aol 0 capl, .slice none 0 0, by simp [HHW.out], HRow.out, RowD.nil' _ _⟩
  have m1 := h6.cell.2.1
  rw [← HN.out.1] at m1 bx7 hTS
  clear m0 m2 m3 m4 m5 f3 h6
  generalize (w3.setCell ⟨g, n * 5 + 3, none⟩ (.slice none 0 0)) = W5 at *
  obtain ⟨n0, n1, n2, n3, n4, n5, n6⟩ := cells7 bx7
  have HTS := hide hTS
  clear hTS bx7
  go_region_with (go_at_call 23; refine (HD.out _ (HTS.out.more (up_drew _))).mono ?_; rintro e w9 ⟨rfl, h9⟩)
  all_goals (go_wp2; go_end0; exact ⟨rfl, HE.out _ h9⟩)

/-- show's goOn. -/
theorem goOn_any (w0 : World) (tb : Nat) (out : List UInt8) (σ : List RowP) (w : World) (hS : TS w0 tb out σ w) (hne : σ ≠ []) (htab : Tab w0) (hlen : (out ++ pendA σ).length + 200 * wtA σ + 1000 ≤ 140737488355328) (hw : wtA σ ≤ 100000000) :
    Calls Tryz.prog 24 #[.pointer (some ⟨tb, 0, none⟩)] w fun e w' => e = .returned (.tuple #[]) ∧ GoneOn w0 tb out σ w' := by
  obtain ⟨σ', ρ, rfl⟩ : ∃ σ' ρ, σ = σ' ++ [ρ] := ⟨σ.dropLast, σ.getLast hne, (List.dropLast_concat_getLast hne).symm⟩
  rw [pendA_snoc, wtA_snoc] at hlen
  rw [wtA_snoc] at hw
  have hl := wtA_len σ'
  obtain ⟨H, sh, gap, L, R, fin⟩ := ρ
  have hgz := bytes_len gap
  have hfz := bytes_len fin
  cases L with
  | nil =>
    cases R with
    | nil =>
      simp [pendR, its, dotW] at hlen
      exact goOn_end w0 tb out σ' H sh gap fin w hS (by omega) (by omega)
    | cons d R' =>
      simp [pendR, its, dotW, wtR] at hlen
      simp [wtR] at hw
      have := sum_ge (m := bk H) (l := R') (fun a _ => bk_one H a)
      exact goOn_rest w0 tb out σ' H sh gap fin d R' w hS htab (by omega) (by omega) (by omega)
  | cons d L' =>
    simp [pendR, its, wtR] at hlen
    simp [wtR] at hw
    have := sum_ge (m := bk H) (l := L') (fun a _ => bk_one H a)
    exact goOn_left w0 tb out σ' H sh gap fin d L' R w hS htab (by omega) (by omega) (by omega)

set_option maxHeartbeats 4000000 in
set_option maxRecDepth 100000 in
theorem told_any (sh : Bool) (w : World) (h : Nat) (d : Tr h) (c0 c1 c2 c3 c4 c5 c6 : Value) (htab : Tab w) (hb : bk h d ≤ 10000000) (hd : DatC w h d [c0, c1, c2, c3, c4, c5, c6]) :
    Calls Tryz.prog 13 #[.agg #[c0, c1, c2, c3, c4, c5, c6], .int .i64 (howI sh)] w fun e w' => e = .returned (.string ⟨(wr h sh d).toArray⟩) ∧ Up w w' := by
  have hwr := wr_le h sh d w _ hd
  obtain ⟨kk, kn, kb, um, kt, ui, ur, he, ⟨x1, x2, x3, rfl⟩, ⟨y1, y2, y3, rfl⟩, ⟨z1, z2, z3, rfl⟩⟩ : ∃ k n bb um t ui ur, ([c0, c1, c2, c3, c4, c5, c6] : List Value) = [.int .i64 k, .int .i64 n, .bool bb, um, .string t, ui, ur] ∧ (∃ ao l cap, um = .slice ao l cap) ∧ (∃ ao l cap, ui = .slice ao l cap) ∧ (∃ ao l cap, ur = .slice ao l cap) := by
    match h, d, hd with
    | 0, d, _ => exact (show Empty from d).elim
    | h + 1, (k, n, bb, L, t, I, R), hd =>
      obtain ⟨um, ui, ur, e, -, hM, -, hI, hR⟩ := hd
      obtain ⟨a1, c1, rfl, -⟩ := hM
      obtain ⟨a2, c2, rfl⟩ := hI.shape
      obtain ⟨a3, c3, rfl⟩ := hR.shape
      exact ⟨_, _, _, _, _, _, _, e, ⟨_, _, _, rfl⟩, ⟨_, _, _, rfl⟩, ⟨_, _, _, rfl⟩⟩
  simp at he
  obtain ⟨rfl, rfl, rfl, rfl, rfl, rfl, rfl⟩ := he
  obtain ⟨W, hW⟩ : ∃ W, W = (w.alloc (.cells #[.int .i64 kk, .int .i64 kn, .bool kb, .slice x1 x2 x3, .string kt, .slice y1 y2 y3, .slice z1 z2 z3] 32)).alloc (.cells #[.pointer none, .slice none 0 0, .slice none 0 0] 58) := ⟨_, rfl⟩
  have u0 : Up w W := by rw [hW]; exact (up_alloc w _).tr (up_alloc _ _)
  have b0 : W.heap[w.heap.size]? = some (.cells #[.int .i64 kk, .int .i64 kn, .bool kb, .slice x1 x2 x3, .string kt, .slice y1 y2 y3, .slice z1 z2 z3] 32 (0, 0)) := by
    rw [hW]
    exact (heap_alloc_old _ _ (r := w.heap.size) (by simp)).trans (heap_alloc_new w _)
  have b1 : W.heap[w.heap.size + 1]? = some (.cells #[.pointer none, .slice none 0 0, .slice none 0 0] 58 (0, 0)) := by
    rw [hW]
    have := heap_alloc_new (w.alloc (.cells #[.int .i64 kk, .int .i64 kn, .bool kb, .slice x1 x2 x3, .string kt, .slice y1 y2 y3, .slice z1 z2 z3] 32)) (.cells #[.pointer none, .slice none 0 0, .slice none 0 0] 58)
    rw [World.size_alloc] at this
    exact this
  have hS : TS w (w.heap.size + 1) [] [] W := ⟨u0, .slice none 0 0, [], ⟨by omega, _, _, b1, .inl rfl, World.ownsRow_nil _ _ _ _⟩, World.ownsRow_nil _ _ _ _, rfl⟩
  have KD := datum_any w (w.heap.size + 1) [] [] sh W h d _ _ _ _ _ _ _ hS htab (by simp; omega) (by simp) hd
  have KG := fun (out : List UInt8) (σ : List RowP) (W1 : World) (h1 : TS w (w.heap.size + 1) out σ W1) (hne : σ ≠ []) (he : out ++ pendA σ = wr h sh d) (hw : wtA σ ≤ bk h d) => goOn_any w (w.heap.size + 1) out σ W1 h1 hne htab (by rw [he]; omega) (by omega)
  obtain ⟨n0, n1, n2, n3, n4, n5, n6⟩ := cells7 b0
  have HD := hide KD
  have HG := hide KG
  have HW := hide hW
  have HL := hide hwr
  have HB := hide hb
  clear KD KG hS b0 b1 hwr hb hd htab u0 hW
  generalize hT : wr h sh d = T at *
  have HTT := hide hT
  clear hT
  generalize howI sh = hw at *
  go_enter Tryz.func13, Tryz.ntmps13
  go_wp2_with fail
  rw [← HW.out]
  go_wp2_with (go_at_call 23; refine HD.out.mono ?_; rintro e w3 ⟨rfl, h3⟩)
  obtain ⟨o3, s3, t1, t2, t3⟩ := h3
  have H3 := hide (And.intro t1 (And.intro t2 t3))
  clear t1 t2 t3
  go_loopg [] (wtA s3) (fun k w' => ∃ out σ, TS w (w.heap.size + 1) out σ w' ∧ out ++ pendA σ = T ∧ wtA σ ≤ k ∧ wtA σ ≤ bk h d)
  case atStart => exact ⟨o3, s3, H3.out.1, by have := H3.out.2.1; rw [HTT.out] at this; simpa [pendA] using this, Nat.le_refl _, by have := H3.out.2.2; simp [wtA] at this ⊢; omega⟩
  case round =>
    obtain ⟨out, σ, hS, he, hk, hbk⟩ := hrel
    obtain ⟨hu, rv, xs, r1, r2, r3⟩ := id hS
    obtain ⟨ao, cap, rfl⟩ : ∃ ao cap, rv = .slice ao σ.length cap := by
      rcases r2.2 with ⟨e, e0⟩ | ⟨g, cap, cur, e, _⟩
      · exact ⟨none, 0, by rw [e, e0]⟩
      · exact ⟨_, _, e⟩
    have c0 := r1.rows
    by_cases hne : σ = []
    · subst hne
      have e1 : out = T := by simpa [pendA] using he
      have KS := bstring_any _ _ out _ _ r1 (by rw [e1]; have := HL.out; have := HB.out; omega)
      rw [e1] at KS
      have HS := hide KS
      have HU := hide hu
      simp only [List.length_nil] at c0
      clear KS hS he hk hbk hu r1 r2 r3 e1
      go_wp2_with (go_at_call 25; refine HS.out.mono ?_; rintro e w5 ⟨rfl, hb5⟩)
      go_ret
      exact ⟨rfl, HU.out.trans hb5⟩
    · have hl0 : 0 < σ.length := List.length_pos_iff.2 hne
      have hlI : (0 : Int) < (σ.length : Int) := by omega
      have KX := HG.out out σ _ hS hne he hbk
      have HX := hide KX
      have HK := hide (And.intro he (And.intro hk hbk))
      clear KX hS he hk hbk hu r1 r2 r3 hne
      go_wp2_with (go_at_call 24; refine HX.out.mono ?_; rintro e w5 ⟨rfl, h5⟩)
      obtain ⟨o5, s5, q1, q2, q3⟩ := h5
      have HQ := hide (And.intro q1 (And.intro q2 q3))
      clear q1 q2 q3
      go_roundg (wtA s5)
      case measure => have := HQ.out.2.2; have := HK.out.2.1; omega
      case rel => exact ⟨o5, s5, HQ.out.1, HQ.out.2.1.trans HK.out.1, Nat.le_refl _, by have := HQ.out.2.2; have := HK.out.2.2; omega⟩

theorem DatC.shapes {w : World} : {h : Nat} → {d : Tr h} → {cs : List Value} → DatC w h d cs → ∃ k n bb um t ui ur, cs = [.int .i64 k, .int .i64 n, .bool bb, um, .string t, ui, ur] ∧ (∃ ao l cap, um = .slice ao l cap) ∧ (∃ ao l cap, ui = .slice ao l cap) ∧ (∃ ao l cap, ur = .slice ao l cap)
  | 0, _, _, hd => hd.elim
  | h + 1, (k, n, b, L, t, I, R), cs, hd => by
    obtain ⟨um, ui, ur, e, -, hM, -, hI, hR⟩ := hd
    obtain ⟨a1, c1, rfl, -⟩ := hM
    obtain ⟨a2, c2, rfl⟩ := hI.shape
    obtain ⟨a3, c3, rfl⟩ := hR.shape
    exact ⟨_, _, _, _, _, _, _, e, ⟨_, _, _, rfl⟩, ⟨_, _, _, rfl⟩, ⟨_, _, _, rfl⟩⟩

set_option maxRecDepth 100000 in
theorem write_any (w : World) (h : Nat) (d : Tr h) (c0 c1 c2 c3 c4 c5 c6 : Value) (htab : Tab w) (hb : bk h d ≤ 10000000) (hd : DatC w h d [c0, c1, c2, c3, c4, c5, c6]) :
    Calls Tryz.prog 7 #[.agg #[c0, c1, c2, c3, c4, c5, c6]] w fun e w' => e = .returned (.string ⟨(wr h false d).toArray⟩) ∧ Up w w' := by
  obtain ⟨kk, kn, kb, um, kt, ui, ur, he, ⟨x1, x2, x3, rfl⟩, ⟨y1, y2, y3, rfl⟩, ⟨z1, z2, z3, rfl⟩⟩ := hd.shapes
  simp at he
  obtain ⟨rfl, rfl, rfl, rfl, rfl, rfl, rfl⟩ := he
  have KT := fun (W : World) (u : Up w W) => told_any false W h d _ _ _ _ _ _ _ (htab.up u) hb (hd.up u)
  generalize wr h false d = T at *
  have HT := hide KT
  simp only [howI, Bool.false_eq_true, if_false] at HT
  clear KT hd htab hb
  go_enter Tryz.func7, Tryz.ntmps7
  go_wp2_with (go_at_call 13; refine (HT.out _ (up_alloc w _)).mono ?_; rintro e w2 ⟨rfl, u2⟩)
  go_ret
  exact ⟨rfl, (up_alloc w _).tr u2⟩

set_option maxRecDepth 100000 in
theorem display_any (w : World) (h : Nat) (d : Tr h) (c0 c1 c2 c3 c4 c5 c6 : Value) (htab : Tab w) (hb : bk h d ≤ 10000000) (hd : DatC w h d [c0, c1, c2, c3, c4, c5, c6]) :
    Calls Tryz.prog 10 #[.agg #[c0, c1, c2, c3, c4, c5, c6]] w fun e w' => e = .returned (.string ⟨(wr h true d).toArray⟩) ∧ Up w w' := by
  obtain ⟨kk, kn, kb, um, kt, ui, ur, he, ⟨x1, x2, x3, rfl⟩, ⟨y1, y2, y3, rfl⟩, ⟨z1, z2, z3, rfl⟩⟩ := hd.shapes
  simp at he
  obtain ⟨rfl, rfl, rfl, rfl, rfl, rfl, rfl⟩ := he
  have KT := fun (W : World) (u : Up w W) => told_any true W h d _ _ _ _ _ _ _ (htab.up u) hb (hd.up u)
  generalize wr h true d = T at *
  have HT := hide KT
  simp only [howI, if_true] at HT
  clear KT hd htab hb
  go_enter Tryz.func10, Tryz.ntmps10
  go_wp2_with (go_at_call 13; refine (HT.out _ (up_alloc w _)).mono ?_; rintro e w2 ⟨rfl, u2⟩)
  go_ret
  exact ⟨rfl, (up_alloc w _).tr u2⟩

def awT : Tr 2 := (6, 0, false, [], ⟨#[]⟩, [(4, 0, false, [], ⟨#[97]⟩, [], []), (3, 32, false, [], ⟨#[]⟩, [], [])], [])

theorem awW : wr 2 false awT = [40, 34, 97, 34, 32, 35, 92, 115, 112, 97, 99, 101, 41] := by
  simp [awT, wr, its, dotW, tsW, tbW, chW]

theorem awS : wr 2 true awT = [40, 97, 32, 32, 41] := by
  simp [awT, wr, its, dotW]

theorem leafD (w : World) (h : Nat) (k n : Int) (t : ByteArray) (hn : -9223372036854775808 ≤ n ∧ n ≤ 9223372036854775807) : DatC w (h + 1) (k, n, false, [], t, [], []) [.int .i64 k, .int .i64 n, .bool false, .slice none 0 0, .string t, .slice none 0 0, .slice none 0 0] :=
  ⟨_, _, _, rfl, hn, sl_nil w, fun i hi => by simp at hi, RowD.nil' _ _, RowD.nil' _ _⟩

set_option maxHeartbeats 4000000 in
set_option maxRecDepth 100000 in
theorem awake_any (w : World) (htab : Tab w) : Calls Tryz.prog 6 #[] w fun e w' => e = .returned (.bool true) ∧ Up w w' := by
  have bA := heap_alloc_new w (.cells #[.int .i64 4, .int .i64 0, .bool false, .slice none 0 0, .string ⟨#[97]⟩, .slice none 0 0, .slice none 0 0, .int .i64 3, .int .i64 32, .bool false, .slice none 0 0, .string ⟨#[]⟩, .slice none 0 0, .slice none 0 0] 32)
  have uA := up_alloc w (.cells #[.int .i64 4, .int .i64 0, .bool false, .slice none 0 0, .string ⟨#[97]⟩, .slice none 0 0, .slice none 0 0, .int .i64 3, .int .i64 32, .bool false, .slice none 0 0, .string ⟨#[]⟩, .slice none 0 0, .slice none 0 0] 32)
  have zA : (w.alloc (.cells #[.int .i64 4, .int .i64 0, .bool false, .slice none 0 0, .string ⟨#[97]⟩, .slice none 0 0, .slice none 0 0, .int .i64 3, .int .i64 32, .bool false, .slice none 0 0, .string ⟨#[]⟩, .slice none 0 0, .slice none 0 0] 32)).heap.size = w.heap.size + 1 := World.size_alloc _ _
  obtain ⟨W1, hW1⟩ : ∃ W1, W1 = w.alloc (.cells #[.int .i64 4, .int .i64 0, .bool false, .slice none 0 0, .string ⟨#[97]⟩, .slice none 0 0, .slice none 0 0, .int .i64 3, .int .i64 32, .bool false, .slice none 0 0, .string ⟨#[]⟩, .slice none 0 0, .slice none 0 0] 32) := ⟨_, rfl⟩
  rw [← hW1] at bA uA zA
  have hd : DatC W1 2 awT [.int .i64 6, .int .i64 0, .bool false, .slice none 0 0, .string ⟨#[]⟩, .slice (some ⟨w.heap.size, 0, none⟩) 2 2, .slice none 0 0] := by
    refine ⟨_, _, _, rfl, by decide, sl_nil W1, fun i hi => by simp at hi, ⟨_, _, rfl, by decide, by decide, .inr ⟨_, _, rfl, fun i hi => ?_⟩⟩, RowD.nil' _ _⟩
    match i, hi with
    | 0, _ => exact ⟨_, rfl, fun j hj => by rw [cell_of_row _ _ _ _ _ _ bA]; match j, hj with | 0, _ | 1, _ | 2, _ | 3, _ | 4, _ | 5, _ | 6, _ => rfl, leafD W1 0 4 0 ⟨#[97]⟩ (by decide)⟩
    | 1, _ => exact ⟨_, rfl, fun j hj => by rw [cell_of_row _ _ _ _ _ _ bA]; match j, hj with | 0, _ | 1, _ | 2, _ | 3, _ | 4, _ | 5, _ | 6, _ => rfl, leafD W1 0 3 32 ⟨#[]⟩ (by decide)⟩
  have K1 := fun (W : World) (u : Up W1 W) => write_any W 2 awT _ _ _ _ _ _ _ (htab.up (uA.tr u)) (by decide) (hd.up u)
  have K2 := fun (W : World) (u : Up W1 W) => display_any W 2 awT _ _ _ _ _ _ _ (htab.up (uA.tr u)) (by decide) (hd.up u)
  rw [awW] at K1
  rw [awS] at K2
  obtain ⟨W2, hW2⟩ : ∃ W2, W2 = W1.alloc (.cells #[.int .i64 6, .int .i64 0, .bool false, .slice none 0 0, .string ⟨#[]⟩, .slice (some ⟨w.heap.size, 0, none⟩) 2 2, .slice none 0 0] 32) := ⟨_, rfl⟩
  have uB : Up W1 W2 := by rw [hW2]; exact up_alloc _ _
  have bB : W2.heap[w.heap.size + 1]? = some (.cells #[.int .i64 6, .int .i64 0, .bool false, .slice none 0 0, .string ⟨#[]⟩, .slice (some ⟨w.heap.size, 0, none⟩) 2 2, .slice none 0 0] 32 (0, 0)) := by rw [hW2, ← zA]; exact heap_alloc_new _ _
  obtain ⟨n0, n1, n2, n3, n4, n5, n6⟩ := cells7 bB
  rw [hW1] at hW2
  have HW := hide hW2
  have HK1 := hide (K1 W2 uB)
  have HK2 := hide K2
  have HB := hide (And.intro bB (And.intro uB (uA.tr uB)))
  clear K1 K2 hd bA uA zA htab hW2 hW1 uB bB
  go_enter Tryz.func6, Tryz.ntmps6
  go_wp2_with fail
  rw [← HW.out]
  go_wp2_with (first
    | (go_at_call 7; refine HK1.out.mono ?_; rintro e w3 ⟨rfl, u3⟩; have b3 := Up.old u3 HB.out.1; clear n0 n1 n2 n3 n4 n5 n6; obtain ⟨n0, n1, n2, n3, n4, n5, n6⟩ := cells7 b3; have HU3 := hide u3; clear u3 b3)
    | (go_at_call 10; refine (HK2.out _ (HB.out.2.1.tr HU3.out)).mono ?_; rintro e w4 ⟨rfl, u4⟩))
  go_ret
  exact ⟨rfl, HB.out.2.2.tr (HU3.out.tr u4)⟩

end Go.Proofs.YtbijdflgjelpnaaGreatDoor
