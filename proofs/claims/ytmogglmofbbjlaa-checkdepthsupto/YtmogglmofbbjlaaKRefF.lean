/-
  What is proved here: what the document's walk keeps in memory: depths, and which places are done.
-/
import Derived.Test.YtmogglmofbbjlaaKRefD
import Derived.Test.YtmogglmofbbjlaaKRefE
import Derived.Test.YtmogglmofbbjlaaKWalk
namespace Go.Proofs.Ytmogglmofbbjlaa
open Go Go.RowKit

theorem infoB : (Try.prog.info? 4).map (fun i => (i.zero, i.size, i.bytes)) = some (some (.bool false), 1, 1) := by kernel_rfl
/-- Which places are done, in memory. -/
def DonAt (w : World) (eb n : Nat) (dn : Nat → Bool) : Prop :=
  ∃ cur, w.heap[eb]? = some (.cells cur 4 (0, 0)) ∧ cur.size = n ∧ ∀ i, i < n → cur[i]? = some (.bool (dn i))
theorem DonAt.cell {w : World} {eb n : Nat} {dn : Nat → Bool} (h : DonAt w eb n dn) {i : Nat} (hi : i < n) : w.cell? ⟨eb, i, none⟩ = some (.bool (dn i)) := by
  obtain ⟨cur, h1, h2, h3⟩ := h
  exact cell_row h1 (h3 i hi)
theorem DonAt.free {w : World} {eb n : Nat} {dn : Nat → Bool} (h : DonAt w eb n dn) (i : Nat) : w.frozen? ⟨eb, i, none⟩ = false := by
  obtain ⟨cur, h1, h2, h3⟩ := h
  exact frozen_of_row w eb i cur 4 h1
theorem DonAt.lt {w : World} {eb n : Nat} {dn : Nat → Bool} (h : DonAt w eb n dn) : eb < w.heap.size := by
  obtain ⟨cur, h1, h2, h3⟩ := h
  exact (Array.getElem?_eq_some_iff.1 h1).1
theorem DonAt.block {w w' : World} {eb n : Nat} {dn : Nat → Bool} (h : DonAt w eb n dn) (hb : w'.heap[eb]? = w.heap[eb]?) : DonAt w' eb n dn := by
  obtain ⟨cur, h1, h2, h3⟩ := h
  exact ⟨cur, hb.trans h1, h2, h3⟩
theorem DonAt.set {w : World} {eb n : Nat} {dn : Nat → Bool} (h : DonAt w eb n dn) {i : Nat} (hi : i < n) (x : Bool) : DonAt (w.setCell ⟨eb, i, none⟩ (.bool x)) eb n (updB dn i x) := by
  obtain ⟨cur, h1, h2, h3⟩ := h
  refine ⟨cur.setIfInBounds i (.bool x), heap_setCell_same w eb i cur 4 _ h1, by simpa using h2, fun j hj => ?_⟩
  by_cases e : j = i
  · subst e
    rw [updB_same, Array.getElem?_setIfInBounds_self_of_lt (by omega)]
  · rw [updB_other e, Array.getElem?_setIfInBounds_ne (by omega)]
    exact h3 j hj
/-- make([]bool, n): a block of its own, none true. -/
theorem wpList_mkB {w : World} {ops : Array Oper} {rest : List Oper} {o : Oper} {a : Act} {Q : Exit → Act → World → Prop}
    (hg : o.guard = none) (l c : Operand) (hop : o.op = Op.makeSlice 74 l c)
    (kl kc : IntKind) (L C : Int) (n : Nat) (hl : a.eval l = .int kl L) (hc : a.eval c = .int kc C) (hL : L = (n : Int)) (hC : C = (n : Int)) (b2 : 1 * n ≤ 281474976710656)
    (hK : ∀ w', DonAt w' w.heap.size n (fun _ => false) → Fr (fun _ => False) w w' → w.heap.size < w'.heap.size → wpList Try.prog ops Q rest (a.put o.dst (.slice (some ⟨w.heap.size, 0, none⟩) n n)) w') :
    wpList Try.prog ops Q (o :: rest) a w := by
  obtain ⟨i, hi, hz0, hz1, hz2⟩ := info_parts infoB
  refine wpList_make_full w hg l c 74 hop w.heap.size 4 i (.bool false) 1 Try.underlying74 hi hz0 hz1 kl kc L C n hl hc hL hC (by rw [hz2]; exact b2) (by unfold maxLen; omega) (Nat.le_refl _) ?_
  intro w' hown hgrow
  have hR : DonAt w' w.heap.size n (fun _ => false) := by
    rcases hown.2 with ⟨h, _⟩ | ⟨g, cap, cur, h, h1, h2, h3, h4, h5, h6⟩
    · cases h
    · cases h
      refine ⟨cur, h2, by omega, fun j hj => ?_⟩
      rw [show (Value.bool false).cells = #[Value.bool false] from rfl, toList_madeCells_one] at h6
      have : (cur.toList.take (n * 1))[j]? = (List.replicate n (Value.bool false))[j]? := by rw [h6, Nat.mul_one]
      rw [List.getElem?_take, if_pos (by omega)] at this
      simpa [hj] using this
  exact hK w' hR ((Fr.refl _ w).grow hgrow (fun k _ e => by cases e)) hR.lt

/-- The box of a proto. -/
def prB (p : PR) (q : Hd) : Array Value := #[.string q.nm, .int .i64 p.args, .int .i64 p.free, .bool p.rest, .slice q.co p.len q.cc, .slice q.ka p.nc q.kc, .slice q.na p.nn q.nc]
/-- The document's walk, under way. -/
structure RSt (w0 wr : World) (xb db eb : Nat) (so : Option Addr) (np sc : Nat) (fr : Nat → Int) (p : PR) (q : Hd) (d : Nat → Int) (dn : Nat → Bool) : Prop where
  box : wr.heap[xb]? = some (.cells (prB p q) 45 (0, 0))
  dep : DepAt wr db p.len d
  don : DonAt wr eb p.len dn
  ok : DnOk d dn
  top : ∀ i, i < p.len → d i ≤ 4096 ∧ -1 ≤ d i
  fre : FreesAt wr so np fr
  co : CodeAt wr q.co p
  fr : Fr (fun _ => False) w0 wr
  xB : w0.heap.size ≤ xb
  dB : w0.heap.size ≤ db
  eB : w0.heap.size ≤ eb
  n1 : xb ≠ db
  n2 : xb ≠ eb
  n3 : db ≠ eb
  sB : ∀ g, so.map (·.block) = some g → g < w0.heap.size
  kB : ∀ g, q.co.map (·.block) = some g → g < w0.heap.size
theorem FreesAt.frS {S : Nat → Prop} {w w' : World} {so : Option Addr} {np : Nat} {fr : Nat → Int} (h : FreesAt w so np fr) (hf : Fr S w w') (h3 : ∀ g, so.map (·.block) = some g → ¬ S g) : FreesAt w' so np fr := by
  rcases h with e | ⟨g, off, rfl, hc⟩
  · exact .inl e
  · by_cases hz : np = 0
    · exact .inl hz
    · have c0 := hc 0 (by omega)
      have hb := hf.block g (World.block_lt_of_cell? w _ c0) (h3 g rfl)
      exact .inr ⟨g, off, rfl, fun j hj => (World.cell?_of_block hb).trans (hc j hj)⟩
theorem RSt.new {w0 wr w' : World} {xb db eb : Nat} {so : Option Addr} {np sc : Nat} {fr : Nat → Int} {p : PR} {q : Hd} {d : Nat → Int} {dn : Nat → Bool} (h : RSt w0 wr xb db eb so np sc fr p q d dn) (hf : Fr (fun _ => False) wr w') : RSt w0 w' xb db eb so np sc fr p q d dn :=
  { h with
    box := (hf.block xb (Array.getElem?_eq_some_iff.1 h.box).1 (fun e => e)).trans h.box
    dep := h.dep.block (hf.block db h.dep.lt (fun e => e))
    don := h.don.block (hf.block eb h.don.lt (fun e => e))
    fre := h.fre.frS hf (fun _ _ e => e)
    co := h.co.fr hf (fun _ _ _ _ e => e)
    fr := h.fr.trans hf (fun _ _ e => e) }
theorem RSt.setD {w0 wr : World} {xb db eb : Nat} {so : Option Addr} {np sc : Nat} {fr : Nat → Int} {p : PR} {q : Hd} {d : Nat → Int} {dn : Nat → Bool} (h : RSt w0 wr xb db eb so np sc fr p q d dn) {t : Nat} (ht : t < p.len) {dep : Int} (h0 : 0 ≤ dep) (h1 : dep ≤ 4096) (hr : reachD d t dep t = dep) : RSt w0 (wr.setCell ⟨db, t, none⟩ (.int .i64 dep)) xb db eb so np sc fr p q (reachD d t dep) dn := by
  have hf : Fr (fun k => k = db) wr (wr.setCell ⟨db, t, none⟩ (.int .i64 dep)) := Fr.setCell (S := fun k => k = db) (Fr.refl _ _) (fun _ => rfl) _ _
  exact { h with
    box := (heap_setCell_other _ _ _ _ h.n1).trans h.box
    dep := by rw [← set_reach hr]; exact h.dep.set ht dep
    don := h.don.block (heap_setCell_other _ _ _ _ (Ne.symm h.n3))
    ok := h.ok.reach h0
    top := fun i hi => by
      by_cases e : i = t
      · rw [e, hr]; omega
      · rw [reach_other e]; exact h.top i hi
    fre := h.fre.frS hf (fun g hg e => by have := h.sB g hg; have := h.dB; omega)
    co := h.co.fr hf (fun g _ _ hg e => by have := h.kB g hg; have := h.dB; omega)
    fr := h.fr.setCell (fun hlt => by have := h.dB; omega) _ _ }
theorem RSt.setE {w0 wr : World} {xb db eb : Nat} {so : Option Addr} {np sc : Nat} {fr : Nat → Int} {p : PR} {q : Hd} {d : Nat → Int} {dn : Nat → Bool} (h : RSt w0 wr xb db eb so np sc fr p q d dn) {t : Nat} (ht : t < p.len) (hd : 0 ≤ d t) : RSt w0 (wr.setCell ⟨eb, t, none⟩ (.bool true)) xb db eb so np sc fr p q d (updB dn t true) := by
  have hf : Fr (fun k => k = eb) wr (wr.setCell ⟨eb, t, none⟩ (.bool true)) := Fr.setCell (S := fun k => k = eb) (Fr.refl _ _) (fun _ => rfl) _ _
  exact { h with
    box := (heap_setCell_other _ _ _ _ h.n2).trans h.box
    dep := h.dep.block (heap_setCell_other _ _ _ _ h.n3)
    don := h.don.set ht true
    ok := h.ok.done hd
    fre := h.fre.frS hf (fun g hg e => by have := h.sB g hg; have := h.eB; omega)
    co := h.co.fr hf (fun g _ _ hg e => by have := h.kB g hg; have := h.eB; omega)
    fr := h.fr.setCell (fun hlt => by have := h.eB; omega) _ _ }
theorem RSt.setX {w0 wr : World} {xb db eb : Nat} {so : Option Addr} {np sc : Nat} {fr : Nat → Int} {p : PR} {q : Hd} {d : Nat → Int} {dn : Nat → Bool} (h : RSt w0 wr xb db eb so np sc fr p q d dn) {t : Nat} (ht : t < p.len) {x : Int} (h0 : -1 ≤ x) (h1 : x ≤ 4096) (hd : dn t = false) : RSt w0 (wr.setCell ⟨db, t, none⟩ (.int .i64 x)) xb db eb so np sc fr p q (updI d t x) dn := by
  have hf : Fr (fun k => k = db) wr (wr.setCell ⟨db, t, none⟩ (.int .i64 x)) := Fr.setCell (S := fun k => k = db) (Fr.refl _ _) (fun _ => rfl) _ _
  exact { h with
    box := (heap_setCell_other _ _ _ _ h.n1).trans h.box
    dep := h.dep.set ht x
    don := h.don.block (heap_setCell_other _ _ _ _ (Ne.symm h.n3))
    ok := fun i hi => by
      by_cases e : i = t
      · rw [e, hd] at hi; cases hi
      · rw [updI_other e]; exact h.ok i hi
    top := fun i hi => by
      by_cases e : i = t
      · rw [e, updI_same]; omega
      · rw [updI_other e]; exact h.top i hi
    fre := h.fre.frS hf (fun g hg e => by have := h.sB g hg; have := h.dB; omega)
    co := h.co.fr hf (fun g _ _ hg e => by have := h.kB g hg; have := h.dB; omega)
    fr := h.fr.setCell (fun hlt => by have := h.dB; omega) _ _ }
theorem RSt.congr {w0 wr : World} {xb db eb : Nat} {so : Option Addr} {np sc : Nat} {fr : Nat → Int} {p : PR} {q : Hd} {d d' : Nat → Int} {dn : Nat → Bool} (h : RSt w0 wr xb db eb so np sc fr p q d dn) (hd : ∀ i, i < p.len → d' i = d i) (hk : DnOk d' dn) : RSt w0 wr xb db eb so np sc fr p q d' dn :=
  { h with
    dep := by
      obtain ⟨cur, h1, h2, h3⟩ := h.dep
      exact ⟨cur, h1, h2, fun i hi => by rw [h3 i hi, hd i hi]⟩
    ok := hk
    top := fun i hi => by rw [hd i hi]; exact h.top i hi }
theorem tOf_start {dep : Int} (h0 : 0 ≤ dep) : tOf (updI (fun _ => -1) 0 dep) (fun _ => false) = updB (fun _ => false) 0 true := by
  funext i
  simp only [tOf, updI, updB]
  by_cases e : i = 0
  · simp [e, h0]
  · simp [e]
/-- How many places are not done, by memory. -/
def todoIn (w : World) (eb n : Nat) : Nat := (List.range n).countP fun i => match w.cell? ⟨eb, i, none⟩ with | some (.bool true) => false | _ => true
theorem DonAt.todo {w : World} {eb n : Nat} {dn : Nat → Bool} (h : DonAt w eb n dn) : todoIn w eb n = (List.range n).countP fun i => !dn i := by
  unfold todoIn
  apply List.countP_congr
  intro i hi
  rw [h.cell (List.mem_range.1 hi)]
  cases dn i <;> simp
theorem todo_less {n pc : Nat} {dn : Nat → Bool} (hp : pc < n) (hd : dn pc = false) : ((List.range n).countP fun i => !(updB dn pc true) i) < (List.range n).countP fun i => !dn i :=
  countP_lt (fun i _ hi => by
    by_cases e : i = pc
    · rw [e]; simp [hd]
    · rw [updB_other e] at hi; exact hi) ⟨pc, List.mem_range.2 hp, by simp [hd], by rw [updB_same]; rfl⟩

end Go.Proofs.Ytmogglmofbbjlaa
