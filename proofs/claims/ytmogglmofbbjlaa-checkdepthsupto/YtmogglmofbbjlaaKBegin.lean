/-
  What is proved here: check's begin: no place but the first is reached.
-/
import Derived.Test.YtmogglmofbbjlaaKLook
import Derived.OwnWalk
namespace Go.Proofs.Ytmogglmofbbjlaa
open Go Go.RowKit

/-- make([]int, n): a block of its own, all noughts. -/
theorem wpList_mkN {w : World} {ops : Array Oper} {rest : List Oper} {o : Oper} {a : Act} {Q : Exit → Act → World → Prop}
    (hg : o.guard = none) (l c : Operand) (hop : o.op = Op.makeSlice 32 l c)
    (kl kc : IntKind) (L C : Int) (n : Nat) (hl : a.eval l = .int kl L) (hc : a.eval c = .int kc C) (hL : L = (n : Int)) (hC : C = (n : Int)) (b2 : 8 * n ≤ 281474976710656)
    (hK : ∀ w', RowAt .i64 3 w' w.heap.size n n (fun _ => 0) → Fr (fun _ => False) w w' → w.heap.size < w'.heap.size → wpList Try.prog ops Q rest (a.put o.dst (.slice (some ⟨w.heap.size, 0, none⟩) n n)) w') :
    wpList Try.prog ops Q (o :: rest) a w := by
  obtain ⟨i, hi, hz0, hz1, hz2⟩ := info_parts infoI
  refine wpList_make_full w hg l c 32 hop w.heap.size 3 i (.int .i64 0) 1 Try.underlying32 hi hz0 hz1 kl kc L C n hl hc hL hC (by rw [hz2]; exact b2) (by unfold maxLen; omega) (Nat.le_refl _) ?_
  intro w' hown hgrow
  have ho : Own .i64 3 w' w.heap.size (.slice (some ⟨w.heap.size, 0, none⟩) n n) n (fun _ => 0) :=
    Own.of_row hown (fun j hj => by
      rw [show (Value.int .i64 0).cells = #[Value.int .i64 0] from rfl, toList_madeCells_one]
      simp [hj])
  have hR : RowAt .i64 3 w' w.heap.size n n (fun _ => 0) := by
    rcases ho with ⟨h, _⟩ | ⟨g, cap, h, _, _, hr⟩
    · cases h
    · cases h
      exact hr
  exact hK w' hR ((Fr.refl _ w).grow hgrow (fun k _ e => by cases e)) hR.lt

/-- What lies where a proto is begun with. -/
structure Beg (B : Nat) (w : World) (fb cb pb : Nat) (so : Option Addr) (np sc : Nat) (fr : Nat → Int) (num : Nat) (p : PR) (q : Hd) : Prop where
  rd : Rdy w fb cb pb so np sc fr num p q (.slice none 0 0) (.slice none 0 0)
  fB : B ≤ fb
  cB : cb < B
  pB : pb < B
  sB : ∀ g, so.map (·.block) = some g → g < B
  kB : ∀ g, q.co.map (·.block) = some g → g < B
  l1 : 1 ≤ p.len
  l2 : p.len ≤ 65536
theorem foC_set9 (cb num : Nat) (p : PR) (q : Hd) (dv dv' tv : Value) : (foC cb num p q dv tv).setIfInBounds 9 dv' = foC cb num p q dv' tv := rfl

/-- The depths under way: those below i are -1. -/
def begD (i : Nat) : Nat → Int := fun j => if j < i then -1 else 0
theorem begD_upd (i : Nat) : updI (begD i) i (-1) = begD (i + 1) := by
  funext j
  simp only [updI, begD]
  by_cases e : j = i
  · subst e; simp
  · by_cases h : j < i
    · simp [e, h, show j < i + 1 by omega]
    · simp [e, h, show ¬ j < i + 1 by omega]

/-- The state of the loop. -/
structure BegL (B : Nat) (w wr : World) (fb cb pb : Nat) (so : Option Addr) (np sc : Nat) (fr : Nat → Int) (num : Nat) (p : PR) (q : Hd) (db i : Nat) : Prop where
  rd : Rdy wr fb cb pb so np sc fr num p q (.slice (some ⟨db, 0, none⟩) p.len p.len) (.slice none 0 0)
  dep : DepAt wr db p.len (begD i)
  fr : Fr (fun k => B ≤ k) w wr
theorem BegL.step {B : Nat} {w wr : World} {fb cb pb : Nat} {so : Option Addr} {np sc : Nat} {fr : Nat → Int} {num : Nat} {p : PR} {q : Hd} {db i : Nat} (h : BegL B w wr fb cb pb so np sc fr num p q db i) (h0 : Beg B w fb cb pb so np sc fr num p q) (hne : fb ≠ db) (hdB : B ≤ db) (hi : i < p.len) : BegL B w (wr.setCell ⟨db, i, none⟩ (.int .i64 (-1))) fb cb pb so np sc fr num p q db (i + 1) := by
  have hf : Fr (fun k => B ≤ k) wr (wr.setCell ⟨db, i, none⟩ (.int .i64 (-1))) := (Fr.refl _ _).setCell (fun _ => hdB) _ _
  refine ⟨⟨(heap_setCell_other _ _ _ _ hne).trans h.rd.fo, h.rd.ch.new hf (by have := h0.cB; omega) (by have := h0.pB; omega) (fun g _ _ e => by have := h0.sB g e; omega), h.rd.co.fr hf (fun g _ _ e => by have := h0.kB g e; omega), h.rd.pb⟩, ?_, h.fr.trans hf (fun _ _ e => e)⟩
  rw [← begD_upd]
  exact h.dep.set hi (-1)
theorem BegL.fin {B : Nat} {w wr : World} {fb cb pb : Nat} {so : Option Addr} {np sc : Nat} {fr : Nat → Int} {num : Nat} {p : PR} {q : Hd} {db : Nat} (h : BegL B w wr fb cb pb so np sc fr num p q db p.len) (h0 : Beg B w fb cb pb so np sc fr num p q) (hne : fb ≠ db) (hdB : B ≤ db) : FSt B wr fb cb pb so np sc fr num p q db (.slice none 0 0) 0 (fun _ => 0) (fun _ => -1) (fun _ => false) where
  rd := h.rd
  dep := by
    obtain ⟨cur, h1, h2, h3⟩ := h.dep
    exact ⟨cur, h1, h2, fun i hi => by rw [h3 i hi]; simp [begD, hi]⟩
  ov := .inl ⟨rfl, rfl⟩
  pl := ⟨fun i h1 h2 => by omega, fun i j h1 => by omega⟩
  le := fun i hi => by omega
  mem := fun y => ⟨fun ⟨i, hi, _⟩ => by omega, fun e => by cases e⟩
  sane := fun y e => by cases e
  top := fun i _ => by omega
  fB := h0.fB
  dB := hdB
  tB := fun g e => by cases e
  ne := hne
  tf := fun e => by cases e
  td := fun e => by cases e
  cB := h0.cB
  pB := h0.pB
  sB := h0.sB
  kB := h0.kB
  l1 := h0.l1
  l2 := h0.l2

set_option maxRecDepth 20000 in
set_option maxHeartbeats 1000000 in
theorem begin_any (B : Nat) (w : World) (fb cb pb : Nat) (so : Option Addr) (np sc : Nat) (fr : Nat → Int) (num : Nat) (p : PR) (q : Hd) (h : Beg B w fb cb pb so np sc fr num p q) (ha0 : 0 ≤ p.args) (ha1 : p.args ≤ 64) :
    Calls Try.prog 24 #[.pointer (some ⟨fb, 0, none⟩)] w fun e w' => e = .returned (.tuple #[]) ∧ (∃ db tv n f, FSt B w' fb cb pb so np sc fr num p q db tv n f (updI (fun _ => -1) 0 (dep0 p)) (updB (fun _ => false) 0 true)) ∧ Fr (fun k => B ≤ k) w w' := by
  have c1 : w.cell? ⟨fb, 1, none⟩ = some (.int .i64 p.args) := cell_row h.rd.fo rfl
  have c3 : w.cell? ⟨fb, 3, none⟩ = some (.bool p.rest) := cell_row h.rd.fo rfl
  have c4 : w.cell? ⟨fb, 4, none⟩ = some (.slice q.co p.len q.cc) := cell_row h.rd.fo rfl
  have c9 : w.cell? ⟨fb, 9, none⟩ = some (.slice none 0 0) := cell_row h.rd.fo rfl
  have hfb : fb < w.heap.size := (Array.getElem?_eq_some_iff.1 h.rd.fo).1
  have hl1 := h.l1
  have hl2 := h.l2
  have HH := hide h
  clear h
  go_enter Try.func24, Try.ntmps24
  go_wp2_with (at_make; refine wpList_mkN rfl _ _ rfl .i64 .i64 _ _ p.len rfl rfl (by omega) (by omega) (by omega) ?_; intro w1 R1 F1 hlt1; have b1 := (F1.block fb hfb (fun e => e)).trans HH.out.rd.fo; have d9 : w1.cell? ⟨fb, 9, none⟩ = some (.slice none 0 0) := cell_row b1 rfl; have d4 : w1.cell? ⟨fb, 4, none⟩ = some (.slice q.co p.len q.cc) := cell_row b1 rfl; have z9 := frozen_of_row w1 fb 9 _ _ b1; have HB1 := hide b1; have HF1 := hide F1; have HR1 := hide R1; clear b1 F1 R1)
  have hdB : B ≤ w.heap.size := by have := HH.out.fB; omega
  have hne : fb ≠ w.heap.size := by omega
  have bF := heap_setCell_same w1 fb 9 _ 60 (.slice (some ⟨w.heap.size, 0, none⟩) p.len p.len) HB1.out
  rw [foC_set9] at bF
  have hf9 : Fr (fun k => B ≤ k) w (w1.setCell ⟨fb, 9, none⟩ (.slice (some ⟨w.heap.size, 0, none⟩) p.len p.len)) := (HF1.out.mono (fun _ _ e => e.elim)).setCell (fun _ => HH.out.fB) _ _
  have hI : BegL B w (w1.setCell ⟨fb, 9, none⟩ (.slice (some ⟨w.heap.size, 0, none⟩) p.len p.len)) fb cb pb so np sc fr num p q w.heap.size 0 :=
    ⟨⟨bF, HH.out.rd.ch.new hf9 (by have := HH.out.cB; omega) (by have := HH.out.pB; omega) (fun g _ _ e => by have := HH.out.sB g e; omega), HH.out.rd.co.fr hf9 (fun g _ _ e => by have := HH.out.kB g e; omega), HH.out.rd.pb⟩, by
      obtain ⟨cur, g1, g2, g3, g4⟩ := HR1.out
      exact ⟨cur, (heap_setCell_other _ _ _ _ (Ne.symm hne)).trans g1, g2, fun i hi => by rw [g4 i hi]; simp [begD]⟩, hf9⟩
  have HI := hide hI
  clear bF hf9 hI HB1 HF1 HR1 d4 d9 z9 c1 c3 c4 c9
  generalize w1.setCell ⟨fb, 9, none⟩ (.slice (some ⟨w.heap.size, 0, none⟩) p.len p.len) = w2 at *
  go_loopw [2, 20] (fun _ u wr => ∃ i : Nat, u = .int .i64 (i : Int) ∧ i ≤ p.len ∧ BegL B w wr fb cb pb so np sc fr num p q w.heap.size i) (fun _ u _ => p.len - (intOf u).toNat)
  case atStart => exact ⟨0, rfl, Nat.zero_le _, HI.out⟩
  case round =>
    clear HI
    obtain ⟨i, rfl, hi, hL⟩ := hrel
    have e9 : wr.cell? ⟨fb, 9, none⟩ = some (.slice (some ⟨w.heap.size, 0, none⟩) p.len p.len) := cell_row hL.rd.fo rfl
    by_cases hil : i < p.len
    · have r0 := hL.dep.cell hil
      have z0 := hL.dep.free i
      have HL := hide hL
      clear hL
      go_wp2
      exact ⟨⟨i + 1, by go_num, hil, HL.out.step HH.out hne hdB hil⟩, by simp [intOf]; omega⟩
    · have e : i = p.len := by omega
      subst e
      have hS := hL.fin HH.out hne hdB
      have e1 : wr.cell? ⟨fb, 1, none⟩ = some (.int .i64 p.args) := cell_row hL.rd.fo rfl
      have e3 : wr.cell? ⟨fb, 3, none⟩ = some (.bool p.rest) := cell_row hL.rd.fo rfl
      have hdp : 0 ≤ dep0 p ∧ dep0 p ≤ 4096 := by unfold dep0; split <;> omega
      have KR := reach_any B wr fb cb pb so np sc fr num p q w.heap.size (.slice none 0 0) 0 (fun _ => 0) (fun _ => -1) (fun _ => false) hS 0 (dep0 p) (by omega) hdp.1 hdp.2
      rw [show reachD (fun _ => (-1 : Int)) 0 (dep0 p) = updI (fun _ => -1) 0 (dep0 p) from rfl, show reachT (fun _ => (-1 : Int)) (fun _ => false) 0 = updB (fun _ => false) 0 true from rfl] at KR
      have HS := hide hS
      have HF := hide hL.fr
      clear hS hL hdp hil
      by_cases hr : p.rest = true
      · have e0 : dep0 p = p.args + 1 := by unfold dep0; rw [if_pos hr]
        rw [hr] at e3
        rw [e0] at KR
        have HK := hide KR
        have E0 := hide e0
        clear KR e0
        go_wp2_with (go_at_call 31; refine HK.out.mono ?_; rintro e w5 ⟨rfl, ⟨tv5, n5, f5, S5, -⟩, F5⟩)
        go_end0
        exact ⟨rfl, ⟨_, tv5, n5, f5, by rw [E0.out]; exact S5⟩, HF.out.trans (HS.out.turn F5) (fun _ _ e => e)⟩
      · have hr' : p.rest = false := by simpa using hr
        have e0 : dep0 p = p.args := by unfold dep0; rw [if_neg hr]
        clear hr
        rw [hr'] at e3
        rw [e0] at KR
        have HK := hide KR
        have E0 := hide e0
        clear KR e0
        go_wp2_with (go_at_call 31; refine HK.out.mono ?_; rintro e w5 ⟨rfl, ⟨tv5, n5, f5, S5, -⟩, F5⟩)
        go_end0
        exact ⟨rfl, ⟨_, tv5, n5, f5, by rw [E0.out]; exact S5⟩, HF.out.trans (HS.out.turn F5) (fun _ _ e => e)⟩

end Go.Proofs.Ytmogglmofbbjlaa
