/-
  What is proved here: what is found of a proto, as it lies in memory; an instruction is come to: check's reach.
-/
import Derived.Test.YtmogglmofbbjlaaKWrong
namespace Go.Proofs.Ytmogglmofbbjlaa
open Go Go.RowKit

theorem pigeon : ∀ (L n : Nat) (f : Nat → Nat), Inj f n → (∀ i, i < n → f i < L) → n ≤ L
  | 0, n, f, _, h => by
    rcases Nat.eq_zero_or_pos n with e | e
    · omega
    · have := h 0 e; omega
  | L + 1, n, f, hi, h => by
    by_cases hx : ∃ i, i < n ∧ f i = L
    · obtain ⟨i, hin, hfi⟩ := hx
      have h1 := swp_inj (a := i) (b := n - 1) hin (by omega) hi
      have := pigeon L (n - 1) (swp f i (n - 1)) (fun a b ha hb e => h1 a b (by omega) (by omega) e) (fun a ha => by
        have h2 : swp f i (n - 1) a < L + 1 := by rw [swp_val]; exact h _ (by split; omega; split; omega; omega)
        have h3 : swp f i (n - 1) a ≠ L := fun e => by
          have h4 : swp f i (n - 1) (n - 1) = L := by rw [swp_r]; exact hfi
          have := h1 a (n - 1) (by omega) (by omega) (e.trans h4.symm)
          omega
        omega)
      omega
    · have := pigeon L n f hi (fun i hin => by
        have h2 := h i hin
        have h3 : f i ≠ L := fun e => hx ⟨i, hin, e⟩
        omega)
      omega

/-- The depths, in memory. -/
def DepAt (w : World) (db n : Nat) (d : Nat → Int) : Prop :=
  ∃ cur, w.heap[db]? = some (.cells cur 3 (0, 0)) ∧ cur.size = n ∧ ∀ i, i < n → cur[i]? = some (.int .i64 (d i))
theorem DepAt.cell {w : World} {db n : Nat} {d : Nat → Int} (h : DepAt w db n d) {i : Nat} (hi : i < n) : w.cell? ⟨db, i, none⟩ = some (.int .i64 (d i)) := by
  obtain ⟨cur, h1, h2, h3⟩ := h
  exact cell_row h1 (h3 i hi)
theorem DepAt.free {w : World} {db n : Nat} {d : Nat → Int} (h : DepAt w db n d) (i : Nat) : w.frozen? ⟨db, i, none⟩ = false := by
  obtain ⟨cur, h1, h2, h3⟩ := h
  exact frozen_of_row w db i cur 3 h1
theorem DepAt.lt {w : World} {db n : Nat} {d : Nat → Int} (h : DepAt w db n d) : db < w.heap.size := by
  obtain ⟨cur, h1, h2, h3⟩ := h
  exact (Array.getElem?_eq_some_iff.1 h1).1
theorem DepAt.block {w w' : World} {db n : Nat} {d : Nat → Int} (h : DepAt w db n d) (hb : w'.heap[db]? = w.heap[db]?) : DepAt w' db n d := by
  obtain ⟨cur, h1, h2, h3⟩ := h
  exact ⟨cur, hb.trans h1, h2, h3⟩
theorem DepAt.set {w : World} {db n : Nat} {d : Nat → Int} (h : DepAt w db n d) {i : Nat} (hi : i < n) (x : Int) : DepAt (w.setCell ⟨db, i, none⟩ (.int .i64 x)) db n (updI d i x) := by
  obtain ⟨cur, h1, h2, h3⟩ := h
  refine ⟨cur.setIfInBounds i (.int .i64 x), heap_setCell_same w db i cur 3 _ h1, by simpa using h2, fun j hj => ?_⟩
  by_cases e : j = i
  · subst e
    rw [updI_same, Array.getElem?_setIfInBounds_self_of_lt (by omega)]
  · rw [updI_other e, Array.getElem?_setIfInBounds_ne (by omega)]
    exact h3 j hj

/-- What is found of a proto: the depths d, the places T that are to be looked at. All that turns lies from B on. -/
structure FSt (B : Nat) (w : World) (fb cb pb : Nat) (so : Option Addr) (np sc : Nat) (fr : Nat → Int) (num : Nat) (p : PR) (q : Hd) (db : Nat) (tv : Value) (n : Nat) (f : Nat → Nat) (d : Nat → Int) (T : Nat → Bool) : Prop where
  rd : Rdy w fb cb pb so np sc fr num p q (.slice (some ⟨db, 0, none⟩) p.len p.len) tv
  dep : DepAt w db p.len d
  ov : Own .i64 3 w 0 tv n f
  pl : Pl n f
  le : ∀ i, i < n → f i < p.len
  mem : ∀ y, Mem f n y ↔ T y = true
  sane : Sane d T
  top : ∀ i, i < p.len → d i ≤ 4096
  fB : B ≤ fb
  dB : B ≤ db
  tB : ∀ g, tv.ownBlock = some g → B ≤ g
  ne : fb ≠ db
  tf : tv.ownBlock ≠ some fb
  td : tv.ownBlock ≠ some db
  cB : cb < B
  pB : pb < B
  sB : ∀ g, so.map (·.block) = some g → g < B
  kB : ∀ g, q.co.map (·.block) = some g → g < B
  l1 : 1 ≤ p.len
  l2 : p.len ≤ 65536

theorem FSt.tb {B : Nat} {w : World} {fb cb pb : Nat} {so : Option Addr} {np sc : Nat} {fr : Nat → Int} {num : Nat} {p : PR} {q : Hd} {db : Nat} {tv : Value} {n : Nat} {f : Nat → Nat} {d : Nat → Int} {T : Nat → Bool} (h : FSt B w fb cb pb so np sc fr num p q db tv n f d T) : n ≤ 65536 := by
  have := pigeon p.len n f h.pl.inj h.le
  have := h.l2
  omega
/-- The blocks that turn. -/
def turnB (fb db : Nat) (tv : Value) (k : Nat) : Prop := k = fb ∨ k = db ∨ tv.ownBlock = some k
theorem FSt.turn {B : Nat} {w w' : World} {fb cb pb : Nat} {so : Option Addr} {np sc : Nat} {fr : Nat → Int} {num : Nat} {p : PR} {q : Hd} {db : Nat} {tv : Value} {n : Nat} {f : Nat → Nat} {d : Nat → Int} {T : Nat → Bool} (h : FSt B w fb cb pb so np sc fr num p q db tv n f d T) (hf : Fr (turnB fb db tv) w w') : Fr (fun k => B ≤ k) w w' :=
  hf.mono (fun k _ e => by
    rcases e with e | e | e
    · rw [e]; exact h.fB
    · rw [e]; exact h.dB
    · exact h.tB k e)
/-- What lies below B stays. -/
theorem FSt.low {B : Nat} {w w' : World} {fb cb pb : Nat} {so : Option Addr} {np sc : Nat} {fr : Nat → Int} {num : Nat} {p : PR} {q : Hd} {db : Nat} {tv : Value} {n : Nat} {f : Nat → Nat} {d : Nat → Int} {T : Nat → Bool} (h : FSt B w fb cb pb so np sc fr num p q db tv n f d T) (hf : Fr (fun k => B ≤ k) w w') : ChAt w' cb pb so np sc fr ∧ CodeAt w' q.co p :=
  ⟨h.rd.ch.new hf (by have := h.cB; omega) (by have := h.pB; omega) (fun g _ _ e => by have := h.sB g e; omega), h.rd.co.fr hf (fun g _ _ e => by have := h.kB g e; omega)⟩
/-- Where nothing of it turns. -/
theorem FSt.new {B : Nat} {w w' : World} {fb cb pb : Nat} {so : Option Addr} {np sc : Nat} {fr : Nat → Int} {num : Nat} {p : PR} {q : Hd} {db : Nat} {tv : Value} {n : Nat} {f : Nat → Nat} {d : Nat → Int} {T : Nat → Bool} (h : FSt B w fb cb pb so np sc fr num p q db tv n f d T) (hf : Fr (fun _ => False) w w') : FSt B w' fb cb pb so np sc fr num p q db tv n f d T :=
  { h with
    rd := h.rd.new hf
    dep := h.dep.block (hf.block db h.dep.lt (fun e => e))
    ov := h.ov.fr hf (fun _ _ e => e) }

/-- The depth at a place is set. -/
theorem FSt.setD {B : Nat} {w : World} {fb cb pb : Nat} {so : Option Addr} {np sc : Nat} {fr : Nat → Int} {num : Nat} {p : PR} {q : Hd} {db : Nat} {tv : Value} {n : Nat} {f : Nat → Nat} {d : Nat → Int} {T : Nat → Bool} (h : FSt B w fb cb pb so np sc fr num p q db tv n f d T) {i : Nat} (hi : i < p.len) {x : Int} (h0 : 0 ≤ x) (h1 : x ≤ 4096) :
    FSt B (w.setCell ⟨db, i, none⟩ (.int .i64 x)) fb cb pb so np sc fr num p q db tv n f (updI d i x) T ∧ Fr (fun k => B ≤ k) w (w.setCell ⟨db, i, none⟩ (.int .i64 x)) := by
  have hf : Fr (fun k => B ≤ k) w (w.setCell ⟨db, i, none⟩ (.int .i64 x)) := (Fr.refl _ _).setCell (fun _ => h.dB) _ _
  have hf2 : Fr (fun k => k = db) w (w.setCell ⟨db, i, none⟩ (.int .i64 x)) := Fr.setCell (S := fun k => k = db) (Fr.refl _ _) (fun _ => rfl) _ _
  obtain ⟨l1, l2⟩ := h.low hf
  refine ⟨{ h with
    rd := ⟨(heap_setCell_other _ _ _ _ h.ne).trans h.rd.fo, l1, l2, h.rd.pb⟩
    dep := h.dep.set hi x
    ov := h.ov.fr hf2 (fun g hg e => h.td (by rw [← e]; exact hg))
    sane := fun y hy => by
      by_cases e : y = i
      · rw [e, updI_same]; exact h0
      · rw [updI_other e]; exact h.sane y hy
    top := fun y hy => by
      by_cases e : y = i
      · rw [e, updI_same]; exact h1
      · rw [updI_other e]; exact h.top y hy }, hf⟩
theorem foC_set (cb num : Nat) (p : PR) (q : Hd) (dv tv tv' : Value) : (foC cb num p q dv tv).setIfInBounds 10 tv' = foC cb num p q dv tv' := rfl
/-- A place is put onto the list. -/
theorem FSt.put {B : Nat} {w w' : World} {fb cb pb : Nat} {so : Option Addr} {np sc : Nat} {fr : Nat → Int} {num : Nat} {p : PR} {q : Hd} {db : Nat} {tv tv' : Value} {n : Nat} {f f' : Nat → Nat} {d : Nat → Int} {T : Nat → Bool} {x : Nat} (h : FSt B w fb cb pb so np sc fr num p q db tv n f d T) (hx : x < p.len) (hd : 0 ≤ d x)
    (h1 : w'.heap[fb]? = some (.cells ((foC cb num p q (.slice (some ⟨db, 0, none⟩) p.len p.len) tv).setIfInBounds 10 tv') 60 (0, 0))) (h2 : Own .i64 3 w' 0 tv' (n + 1) f') (h3 : Stays w.heap.size tv tv') (h4 : Pl (n + 1) f') (h5 : ∀ y, Mem f' (n + 1) y ↔ (Mem f n y ∨ y = x)) (h6 : Fr (fun k => k = fb ∨ tv.ownBlock = some k) w w') :
    FSt B w' fb cb pb so np sc fr num p q db tv' (n + 1) f' d (updB T x true) ∧ Fr (fun k => B ≤ k) w w' := by
  have hf : Fr (fun k => B ≤ k) w w' := h6.mono (fun k _ e => by rcases e with e | e; rw [e]; exact h.fB; exact h.tB k e)
  obtain ⟨l1, l2⟩ := h.low hf
  have hfb : fb < w.heap.size := (Array.getElem?_eq_some_iff.1 h.rd.fo).1
  refine ⟨{ h with
    rd := ⟨by rw [h1, foC_set], l1, l2, h.rd.pb⟩
    dep := h.dep.block (h6.block db h.dep.lt (fun e => by rcases e with e | e; exact h.ne e.symm; exact h.td e))
    ov := h2
    pl := h4
    le := fun i hi => by
      rcases (h5 (f' i)).1 ⟨i, hi, rfl⟩ with ⟨j, hj, e⟩ | e
      · rw [← e]; exact h.le j hj
      · rw [e]; exact hx
    mem := fun y => by
      rw [h5, h.mem]
      by_cases e : y = x
      · subst e; rw [updB_same]; simp
      · rw [updB_other e]; simp [e]
    sane := fun y hy => by
      by_cases e : y = x
      · rw [e]; exact hd
      · rw [updB_other e] at hy; exact h.sane y hy
    tB := fun g hg => by
      rcases h3 g hg with e | e
      · exact h.tB g e
      · have := h.fB; omega
    tf := fun e => by
      rcases h3 fb e with e | e
      · exact h.tf e
      · omega
    td := fun e => by
      rcases h3 db e with e | e
      · exact h.td e
      · have := h.dep.lt; omega }, hf⟩

theorem FSt.c9 {B : Nat} {w : World} {fb cb pb : Nat} {so : Option Addr} {np sc : Nat} {fr : Nat → Int} {num : Nat} {p : PR} {q : Hd} {db : Nat} {tv : Value} {n : Nat} {f : Nat → Nat} {d : Nat → Int} {T : Nat → Bool} (h : FSt B w fb cb pb so np sc fr num p q db tv n f d T) : w.cell? ⟨fb, 9, none⟩ = some (.slice (some ⟨db, 0, none⟩) p.len p.len) := cell_row h.rd.fo rfl

/-- What is found of a proto, behind a step. -/
def FNext (B : Nat) (w w' : World) (fb cb pb : Nat) (so : Option Addr) (np sc : Nat) (fr : Nat → Int) (num : Nat) (p : PR) (q : Hd) (db : Nat) (tv : Value) (d : Nat → Int) (T : Nat → Bool) : Prop :=
  ∃ tv' n' f', FSt B w' fb cb pb so np sc fr num p q db tv' n' f' d T ∧ Stays w.heap.size tv tv'

set_option maxRecDepth 20000 in
set_option maxHeartbeats 1000000 in
theorem reach_any (B : Nat) (w : World) (fb cb pb : Nat) (so : Option Addr) (np sc : Nat) (fr : Nat → Int) (num : Nat) (p : PR) (q : Hd) (db : Nat) (tv : Value) (n : Nat) (f : Nat → Nat) (d : Nat → Int) (T : Nat → Bool) (h : FSt B w fb cb pb so np sc fr num p q db tv n f d T) (x : Nat) (dep : Int) (hx : x < p.len) (h0 : 0 ≤ dep) (h1 : dep ≤ 4096) :
    Calls Try.prog 31 #[.pointer (some ⟨fb, 0, none⟩), .int .i64 (x : Int), .int .i64 dep] w fun e w' => e = .returned (.bool (decide (reachD d x dep x = dep))) ∧ FNext B w w' fb cb pb so np sc fr num p q db tv (reachD d x dep) (reachT d T x) ∧ Fr (turnB fb db tv) w w' := by
  have c9 := h.c9
  have r0 := h.dep.cell hx
  have z0 := h.dep.free x
  have hl1 := h.l1
  have hl2 := h.l2
  by_cases hd : d x < 0
  · obtain ⟨S1, F1⟩ := h.setD hx h0 h1
    have hnm : ¬ Mem f n x := fun hm => by have := h.sane x ((h.mem x).1 hm); omega
    have KP := put_any 60 _ fb _ 10 tv n x f S1.rd.fo rfl S1.ov S1.tf S1.tb S1.pl hnm (by omega) (fun i hi => by have := S1.le i hi; omega)
    have c92 := S1.c9
    have e1 : reachD d x dep = updI d x dep := by unfold reachD; rw [if_pos hd]
    have e2 : reachT d T x = updB T x true := by unfold reachT; rw [if_pos hd]
    rw [e1, e2, updI_same]
    have HS := hide S1
    have HF : Hid (Fr (turnB fb db tv) w (w.setCell ⟨db, x, none⟩ (.int .i64 dep))) := hide ((Fr.refl _ _).setCell (fun _ => .inr (.inl rfl)) _ _)
    have HK := hide KP
    clear S1 F1 KP h e1 e2 hnm
    generalize d x = dx at *
    go_enter Try.func31, Try.ntmps31
    go_wp2_with (go_at_call 38; refine HK.out.mono ?_; rintro e w2 ⟨rfl, tv', f', g1, g2, g3, g4, g5, g6⟩; obtain ⟨S2, F2⟩ := HS.out.put hx (by rw [updI_same]; exact h0) g1 g2 g3 g4 g5 g6; have c93 := S2.c9; have r3 := S2.dep.cell hx; rw [updI_same] at r3; have HS2 := hide S2; have HF2 := hide g6; have HG3 := hide g3; clear S2 F2 g1 g2 g3 g4 g5 g6)
    go_ret
    exact ⟨retB (by simp), ⟨tv', _, f', HS2.out, fun g hg => by have := HG3.out g hg; simpa [World.setCell] using this⟩, HF.out.trans HF2.out (fun _ _ e => by rcases e with e | e; exact .inl e; exact .inr (.inr e))⟩
  · have e1 : reachD d x dep = d := by unfold reachD; rw [if_neg hd]
    have e2 : reachT d T x = T := by unfold reachT; rw [if_neg hd]
    rw [e1, e2]
    have HS := hide h
    clear h e1 e2
    generalize d x = dx at *
    go_enter Try.func31, Try.ntmps31
    go_wp2
    go_ret
    exact ⟨retB (by rw [Bool.eq_iff_iff]; simp), ⟨tv, n, f, HS.out, Stays.refl _ _⟩, Fr.refl _ _⟩

end Go.Proofs.Ytmogglmofbbjlaa
