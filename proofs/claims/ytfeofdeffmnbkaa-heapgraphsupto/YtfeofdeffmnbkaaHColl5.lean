/-
  What is proved here: the stages of a collection of both heaps, as tandemlaw03's do makes it; no walk.
-/
import Derived.Test.YtfeofdeffmnbkaaHDo
namespace Go.Proofs.Ytfeofdeffmnbkaa
open Go Go.RowKit

theorem Own.ge {k : IntKind} {E : TypeId} {w : World} {base : Nat} {v : Value} {n : Nat} {f : Nat → Nat} (h : Own k E w base v n f) {g : Nat} (hg : v.ownBlock = some g) : base ≤ g := by
  rcases h with ⟨rfl, rfl⟩ | ⟨g', cap, rfl, h1, h2, h3⟩
  · cases hg
  · have e : g' = g := by simpa [Value.ownBlock] using hg
    omega
theorem drewFr {w w1 : World} (h : ∃ q, w1 = w.drewN q) : Fr (fun _ => False) w w1 := by
  obtain ⟨q, rfl⟩ := h
  exact (Fr.refl _ _).drewN q
/-- The roots of a collection. -/
theorem roots_of {m : Nat} {o : Nat → Nat} (ho : ∀ i, i < m → o i < 18446744073709551616) (g : Nat → Int) (l y : Nat) (hy : y < 18446744073709551616) : ∃ r : Nat → Nat, (∀ i, i < l → pk m o (g i) = r i) ∧ r l = y ∧ ∀ i, i < l + 1 → r i < 18446744073709551616 := by
  refine ⟨fun i => if i < l then pk m o (g i) else y, fun i hi => by simp [hi], by simp, fun i _ => ?_⟩
  by_cases c : i < l
  · simp only [c, if_true]; exact pk_lt ho _
  · simp only [c, if_false]; exact hy
theorem Own.fst {E : TypeId} {w : World} {base : Nat} {ao : Option Addr} {l cap : Nat} {r : Nat → Nat} (h : Own .u64 E w base (.slice ao (l + 1) cap) (l + 1) r) : ∃ g, ao = some ⟨g, 0, none⟩ ∧ base ≤ g ∧ g < w.heap.size ∧ (∀ i, i < l + 1 → w.cell? ⟨g, 0 + i, none⟩ = some (.int .u64 (r i))) ∧ l + 1 ≤ cap ∧ cap ≤ 9223372036854775807 := by
  rcases h with ⟨e, e2⟩ | ⟨g, cap', e, h1, h2, h3⟩
  · cases e2
  · cases e
    exact ⟨g, rfl, h1, h3.lt, fun i hi => by rw [Nat.zero_add]; exact h3.cell hi, h3.le, h2⟩
theorem own_cells {E : TypeId} {w : World} {base g l cap : Nat} {r : Nat → Nat} (h : Own .u64 E w base (.slice (some ⟨g, 0, none⟩) (l + 1) cap) (l + 1) r) : ∀ i, i < l + 1 → w.cell? ⟨g, 0 + i, none⟩ = some (.int .u64 (r i)) := by
  obtain ⟨g', e, _, _, h3, _, _⟩ := h.fst
  cases e
  exact h3
theorem Own.rdl {k : IntKind} {E : TypeId} {w : World} {base : Nat} {ao : Option Addr} {n cap : Nat} {f : Nat → Nat} (h : Own k E w base (.slice ao n cap) n f) : Rd k w ao n f := by
  obtain ⟨ao', cap', e, _, _, _, h3⟩ := h.sl
  cases e
  exact h3

section
variable {w1 : World} {ob hb : Nat} {X : Nat → Prop} {rb : Nat} {Y : Nat → Prop} {vO : Value} {sz : Nat} {tm : Int} {n : Nat} {f : Nat → Nat} {st : Nat → Bool} {m : Nat} {o : Nat → Nat} {l : Nat} {r : Nat → Nat}

/-- The roots are copied. -/
structure St6 (w1 : World) (l : Nat) (r : Nat → Nat) (w6 : World) (ao5 : Option Addr) (cap5 : Nat) (ao6 : Option Addr) (cap6 : Nat) : Prop where
  F : Fr (fun _ => False) w1 w6
  q5 : Own .u64 33 w6 w1.heap.size (.slice ao5 (l + 1) cap5) (l + 1) r
  q6 : Own .u64 33 w6 w1.heap.size (.slice ao6 (l + 1) cap6) (l + 1) r
/-- The program's heap has collected. -/
structure St7 (w1 : World) (hb : Nat) (X : Nat → Prop) (sz : Nat) (tm : Int) (n2 : Nat) (f2 : Nat → Nat) (st2 : Nat → Bool) (l : Nat) (r rr : Nat → Nat) (w7 : World) (ao5 : Option Addr) (cap5 : Nat) (ao6 : Option Addr) (cap6 gm : Nat) (X2 : Nat → Prop) : Prop where
  F : Fr X w1 w7
  q5 : Own .u64 33 w7 w1.heap.size (.slice ao5 (l + 1) cap5) (l + 1) r
  q6 : Own .u64 33 w7 w1.heap.size (.slice ao6 (l + 1) cap6) (l + 1) r
  row : RowAt .u64 33 w7 gm (l + 1) (l + 1) rr
  gm1 : w1.heap.size ≤ gm
  gmX : ¬ X2 gm
  H : HeapAt w7 hb X2 sz (tm + 1) n2 f2 st2
  G : Grows w1.heap.size X X2
/-- Both have. -/
structure St8 (w1 : World) (ob hb : Nat) (X : Nat → Prop) (rb : Nat) (Y : Nat → Prop) (vO : Value) (sz : Nat) (tm : Int) (n2 : Nat) (f2 : Nat → Nat) (st2 : Nat → Bool) (m : Nat) (o : Nat → Nat) (l : Nat) (r rr : Nat → Nat) (w8 : World) (ao5 : Option Addr) (cap5 : Nat) (ao6 : Option Addr) (cap6 gm : Nat) (X2 Y2 : Nat → Prop) : Prop where
  F : Fr (fun k => X k ∨ Y k) w1 w8
  q5 : Own .u64 33 w8 w1.heap.size (.slice ao5 (l + 1) cap5) (l + 1) r
  q6 : Own .u64 33 w8 w1.heap.size (.slice ao6 (l + 1) cap6) (l + 1) r
  row : RowAt .u64 33 w8 gm (l + 1) (l + 1) rr
  gm1 : w1.heap.size ≤ gm
  gmX : ¬ X2 gm
  gmY : ¬ Y2 gm
  E : OnIn w8 ob hb X2 rb Y2 vO sz (tm + 1) n2 f2 st2 m o
  GX : Grows w1.heap.size X X2
  GY : Grows w1.heap.size Y Y2

theorem St6.mk5 {w6 w5 : World} {ao5 : Option Addr} {cap5 : Nat} {ao6 : Option Addr} {cap6 : Nat} (F5 : Fr (fun _ => False) w1 w5) (q5 : Own .u64 33 w5 w1.heap.size (.slice ao5 (l + 1) cap5) (l + 1) r) (q6 : Own .u64 33 w6 w5.heap.size (.slice ao6 (l + 1) cap6) (l + 1) r) (F6 : Fr (fun _ => False) w5 w6) : St6 w1 l r w6 ao5 cap5 ao6 cap6 :=
  ⟨Fr.trans F5 F6 (fun _ _ e => e), q5.fr F6 (fun _ _ e => e), q6.mono F5.size⟩
theorem St6.hr {w6 : World} {ao5 : Option Addr} {cap5 : Nat} {ao6 : Option Addr} {cap6 : Nat} (h : St6 w1 l r w6 ao5 cap5 ao6 cap6) (hN : OnIn w1 ob hb X rb Y vO sz tm n f st m o) : (l + 1 = 0 ∨ ∃ b off, ao6 = some ⟨b, off, none⟩ ∧ b < w6.heap.size ∧ ¬ X b ∧ ∀ k, k < l + 1 → w6.cell? ⟨b, off + k, none⟩ = some (.int .u64 (r k))) ∧ l + 1 ≤ cap6 ∧ cap6 ≤ 9223372036854775807 := by
  obtain ⟨g, e, h1, h2, h3, h4, h5⟩ := h.q6.fst
  exact ⟨.inr ⟨g, 0, e, h2, fun e => by have := hN.H.lt e; omega, h3⟩, h4, h5⟩
theorem St6.seven {w6 w7 : World} {ao5 : Option Addr} {cap5 : Nat} {ao6 : Option Addr} {cap6 gm : Nat} {X2 : Nat → Prop} {rr : Nat → Nat} {n2 : Nat} {f2 : Nat → Nat} {st2 : Nat → Bool} (h : St6 w1 l r w6 ao5 cap5 ao6 cap6) (hN : OnIn w1 ob hb X rb Y vO sz tm n f st m o) (hgm : w6.heap.size ≤ gm) (R7 : RowAt .u64 33 w7 gm (l + 1) (l + 1) rr) (n7 : ¬ X2 gm) (H7 : HeapAt w7 hb X2 sz (tm + 1) n2 f2 st2) (G7 : Grows w6.heap.size X X2) (F7 : Fr X w6 w7) : St7 w1 hb X sz tm n2 f2 st2 l r rr w7 ao5 cap5 ao6 cap6 gm X2 :=
  have hs := h.F.size
  ⟨Fr.trans (h.F.mono fun _ _ e => e.elim) F7 (fun _ _ e => e), h.q5.fr F7 (fun g hg e => by have := h.q5.ge hg; have := hN.H.lt e; omega), h.q6.fr F7 (fun g hg e => by have := h.q6.ge hg; have := hN.H.lt e; omega), R7, Nat.le_trans hs hgm, n7, H7, (Grows.refl _ _).trans G7 hs⟩
theorem St7.ref {n2 : Nat} {f2 : Nat → Nat} {st2 : Nat → Bool} {rr : Nat → Nat} {w7 : World} {ao5 : Option Addr} {cap5 : Nat} {ao6 : Option Addr} {cap6 gm : Nat} {X2 : Nat → Prop} (h : St7 w1 hb X sz tm n2 f2 st2 l r rr w7 ao5 cap5 ao6 cap6 gm X2) (hN : OnIn w1 ob hb X rb Y vO sz tm n f st m o) : RefAt w7 rb Y sz tm n f st := hN.R.fr h.F (fun k hk e => hN.XY k e hk)
theorem St7.hr {n2 : Nat} {f2 : Nat → Nat} {st2 : Nat → Bool} {rr : Nat → Nat} {w7 : World} {ao5 : Option Addr} {cap5 : Nat} {ao6 : Option Addr} {cap6 gm : Nat} {X2 : Nat → Prop} (h : St7 w1 hb X sz tm n2 f2 st2 l r rr w7 ao5 cap5 ao6 cap6 gm X2) (hN : OnIn w1 ob hb X rb Y vO sz tm n f st m o) : (l + 1 = 0 ∨ ∃ b off, ao5 = some ⟨b, off, none⟩ ∧ b < w7.heap.size ∧ ¬ Y b ∧ ∀ k, k < l + 1 → w7.cell? ⟨b, off + k, none⟩ = some (.int .u64 (r k))) ∧ l + 1 ≤ cap5 ∧ cap5 ≤ 9223372036854775807 := by
  obtain ⟨g, e, h1, h2, h3, h4, h5⟩ := h.q5.fst
  exact ⟨.inr ⟨g, 0, e, h2, fun e => by have := hN.R.lt e; omega, h3⟩, h4, h5⟩
theorem St7.eight {n2 : Nat} {f2 : Nat → Nat} {st2 : Nat → Bool} {rr : Nat → Nat} {w7 w8 : World} {ao5 : Option Addr} {cap5 : Nat} {ao6 : Option Addr} {cap6 gm : Nat} {X2 Y2 : Nat → Prop} (h : St7 w1 hb X sz tm n2 f2 st2 l r rr w7 ao5 cap5 ao6 cap6 gm X2) (hN : OnIn w1 ob hb X rb Y vO sz tm n f st m o) (R8 : RefAt w8 rb Y2 sz (tm + 1) n2 f2 st2) (G8 : Grows w7.heap.size Y Y2) (F8 : Fr Y w7 w8) : St8 w1 ob hb X rb Y vO sz tm n2 f2 st2 m o l r rr w8 ao5 cap5 ao6 cap6 gm X2 Y2 := by
  have hs := h.F.size
  have F : Fr (fun k => X k ∨ Y k) w1 w8 := Fr.trans (h.F.mono fun _ _ e => .inl e) F8 (fun _ _ e => .inr e)
  have gY : Grows w1.heap.size Y Y2 := (Grows.refl _ _).trans G8 hs
  have hlt := h.row.lt
  have hgY : ¬ Y gm := fun e => by have := hN.R.lt e; have := h.gm1; omega
  have yl : ∀ k, Y k → k < w1.heap.size := fun k hk => hN.R.lt hk
  have hd := apart_grow hN.XY yl h.G (fun k hk => h.H.lt hk) G8
  refine ⟨F, h.q5.fr F8 (fun g hg e => by have := h.q5.ge hg; have := yl g e; omega), h.q6.fr F8 (fun g hg e => by have := h.q6.ge hg; have := yl g e; omega), h.row.fr F8 hgY, h.gm1, h.gmX, fun e => ?_, hN.turn (h.H.fr F8 (fun k hk e => ?_)) R8 F h.G gY hd, h.G, gY⟩
  · rcases G8 gm e with e | e
    · exact hgY e
    · omega
  · rcases h.G k hk with e2 | e2
    · exact hN.XY k e2 e
    · have := yl k e; omega
theorem St8.fr {n2 : Nat} {f2 : Nat → Nat} {st2 : Nat → Bool} {rr : Nat → Nat} {w8 w9 : World} {ao5 : Option Addr} {cap5 : Nat} {ao6 : Option Addr} {cap6 gm : Nat} {X2 Y2 : Nat → Prop} (h : St8 w1 ob hb X rb Y vO sz tm n2 f2 st2 m o l r rr w8 ao5 cap5 ao6 cap6 gm X2 Y2) (hF : Fr (fun _ => False) w8 w9) : St8 w1 ob hb X rb Y vO sz tm n2 f2 st2 m o l r rr w9 ao5 cap5 ao6 cap6 gm X2 Y2 :=
  ⟨Fr.trans h.F hF (fun _ _ e => e.elim), h.q5.fr hF (fun _ _ e => e), h.q6.fr hF (fun _ _ e => e), h.row.fr hF (fun e => e), h.gm1, h.gmX, h.gmY, h.E.fr hF (fun _ _ e => e), h.GX, h.GY⟩
end

/-- The objects among the roots are kept: so far mm of them. -/
structure St9 (B : Nat) (w : World) (ob hb : Nat) (X2 : Nat → Prop) (rb : Nat) (Y2 : Nat → Prop) (sz : Nat) (tm : Int) (n2 : Nat) (f2 : Nat → Nat) (st2 : Nat → Bool) (l : Nat) (rr : Nat → Nat) (gm j : Nat) (wr : World) (v : Value) (mm : Nat) (oo : Nat → Nat) : Prop where
  E : OnIn wr ob hb X2 rb Y2 v sz tm n2 f2 st2 mm oo
  row : RowAt .u64 33 wr gm (l + 1) (l + 1) rr
  gmX : ¬ X2 gm
  gmY : ¬ Y2 gm
  gmO : gm ≠ ob
  gmv : v.ownBlock ≠ some gm
  vB : ∀ g, v.ownBlock = some g → B ≤ g
  mj : mm ≤ j
  ptr : ∀ i, i < mm → isPtr st2 (oo i) = true
  F : Fr (fun k => B ≤ k) w wr
  hB : B ≤ wr.heap.size
theorem St9.fr {B : Nat} {w : World} {ob hb : Nat} {X2 : Nat → Prop} {rb : Nat} {Y2 : Nat → Prop} {sz : Nat} {tm : Int} {n2 : Nat} {f2 : Nat → Nat} {st2 : Nat → Bool} {l : Nat} {rr : Nat → Nat} {gm j j2 : Nat} {wr w2 : World} {v : Value} {mm : Nat} {oo : Nat → Nat} (h : St9 B w ob hb X2 rb Y2 sz tm n2 f2 st2 l rr gm j wr v mm oo) (hF : Fr (fun _ => False) wr w2) (hj : j ≤ j2) : St9 B w ob hb X2 rb Y2 sz tm n2 f2 st2 l rr gm j2 w2 v mm oo :=
  ⟨h.E.fr hF (fun _ _ e => e), h.row.fr hF (fun e => e), h.gmX, h.gmY, h.gmO, h.gmv, h.vB, Nat.le_trans h.mj hj, h.ptr, h.F.on hF.some, Nat.le_trans h.hB hF.size⟩
/-- One more is kept. -/
theorem St9.push {B : Nat} {w : World} {ob hb : Nat} {X2 : Nat → Prop} {rb : Nat} {Y2 : Nat → Prop} {sz : Nat} {tm : Int} {n2 : Nat} {f2 : Nat → Nat} {st2 : Nat → Bool} {l : Nat} {rr : Nat → Nat} {gm j : Nat} {wr w2 : World} {v v2 : Value} {mm : Nat} {oo : Nat → Nat} {x : Nat} (h : St9 B w ob hb X2 rb Y2 sz tm n2 f2 st2 l rr gm j wr v mm oo) (bo : B ≤ ob)
    (hF : Fr (fun k => v.ownBlock = some k) wr w2) (hO : Own .u64 33 w2 0 v2 (mm + 1) (upd oo mm x)) (hst : Stays wr.heap.size v v2) (hx : x < 18446744073709551616) (hp : isPtr st2 x = true) (ml : mm + 1 ≤ 17592186044416) :
    w2.cell? ⟨ob, 2, none⟩ = some v ∧ w2.frozen? ⟨ob, 2, none⟩ = false ∧ St9 B w ob hb X2 rb Y2 sz tm n2 f2 st2 l rr gm (j + 1) (w2.setCell ⟨ob, 2, none⟩ v2) v2 (mm + 1) (upd oo mm x) := by
  obtain ⟨h1, h2, h3⟩ := h.E.put hF hO hst (upd_lt h.E.ol hx) ml
  have hfr : Fr (fun k => k = ob) w2 (w2.setCell ⟨ob, 2, none⟩ v2) := Fr.setCell (S := fun k => k = ob) (Fr.refl _ _) (fun _ => rfl) _ _
  have hlt := h.row.lt
  refine ⟨h1, h2, h3, (h.row.fr hF h.gmv).fr hfr h.gmO, h.gmX, h.gmY, h.gmO, fun e => ?_, fun g hg => ?_, by have := h.mj; omega, fun i hi => ?_, (h.F.on (hF.mono fun k _ e => h.vB k e)).on (hfr.mono fun k _ e => by rw [e]; exact bo), ?_⟩
  · rcases hst gm e with e | e
    · exact h.gmv e
    · omega
  · rcases hst g hg with e | e
    · exact h.vB g e
    · exact Nat.le_trans h.hB e
  · by_cases c : i = mm
    · rw [c, upd_same]; exact hp
    · rw [upd_other c]; exact h.ptr i (by omega)
  · exact Nat.le_trans h.hB (Nat.le_trans hF.size hfr.size)

end Go.Proofs.Ytfeofdeffmnbkaa
