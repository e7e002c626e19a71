/-
  What is proved here: what is wrong with OpClosure and OpPrim, whatever the frame is: check's wrongOperands.
-/
import Derived.Test.YtmogglmofbbjlaaKMem
import Derived.Deep.RegionWith
namespace Go.Proofs.Ytmogglmofbbjlaa
open Go Go.RowKit

theorem ChAt.new {S : Nat → Prop} {w w' : World} {cb pb : Nat} {so : Option Addr} {np sc : Nat} {fr : Nat → Int} (h : ChAt w cb pb so np sc fr) (hf : Fr S w w') (h1 : ¬ S cb) (h2 : ¬ S pb) (h3 : ∀ g o, (∃ u, w.cell? ⟨g, o, none⟩ = some u) → so.map (·.block) = some g → ¬ S g) : ChAt w' cb pb so np sc fr :=
  ⟨(hf.block cb (Array.getElem?_eq_some_iff.1 h.ch).1 h1).trans h.ch, (hf.block pb (Array.getElem?_eq_some_iff.1 h.pr).1 h2).trans h.pr, by
    rcases h.fr with e | ⟨g, off, rfl, hc⟩
    · exact .inl e
    · by_cases hz : np = 0
      · exact .inl hz
      · have c0 : ∃ u, w.cell? ⟨g, off + 2, none⟩ = some u := ⟨_, by have := hc 0 (by omega); simpa using this⟩
        have hb := hf.block g (by obtain ⟨u, hu⟩ := c0; exact World.block_lt_of_cell? w _ hu) (h3 g _ c0 rfl)
        exact .inr ⟨g, off, rfl, fun j hj => (World.cell?_of_block hb).trans (hc j hj)⟩, h.s1, h.s2⟩
theorem CodeAt.fr {S : Nat → Prop} {w w' : World} {co : Option Addr} {p : PR} (h : CodeAt w co p) (hf : Fr S w w') (h3 : ∀ g o, (∃ u, w.cell? ⟨g, o, none⟩ = some u) → co.map (·.block) = some g → ¬ S g) : CodeAt w' co p := by
  rcases h with e | ⟨g, off, rfl, hc⟩
  · exact .inl e
  · by_cases hz : p.len = 0
    · exact .inl hz
    · have c0 : ∃ u, w.cell? ⟨g, off, none⟩ = some u := ⟨_, by have := (hc 0 (by omega)).1; simpa using this⟩
      have hb := hf.block g (by obtain ⟨u, hu⟩ := c0; exact World.block_lt_of_cell? w _ hu) (h3 g _ c0 rfl)
      exact .inr ⟨g, off, rfl, fun j hj => ⟨(World.cell?_of_block hb).trans (hc j hj).1, (World.cell?_of_block hb).trans (hc j hj).2.1, (World.cell?_of_block hb).trans (hc j hj).2.2⟩⟩
theorem Rdy.new {w w' : World} {fb cb pb : Nat} {so : Option Addr} {np sc : Nat} {fr : Nat → Int} {num : Nat} {p : PR} {q : Hd} {dv tv : Value} (h : Rdy w fb cb pb so np sc fr num p q dv tv) (hf : Fr (fun _ => False) w w') : Rdy w' fb cb pb so np sc fr num p q dv tv :=
  ⟨(hf.block fb (Array.getElem?_eq_some_iff.1 h.fo).1 (fun e => e)).trans h.fo, h.ch.new hf (fun e => e) (fun e => e) (fun _ _ _ _ e => e), h.co.fr hf (fun _ _ _ _ e => e), h.pb⟩

theorem nAB_ok : ((List.range 22).all fun k => (nA k == 5 && nB k == 8) || (nA k == 6 && nB k == 10) || (nB k == 0 && (nA k != 5 && nA k != 6))) = true := by decide +kernel
theorem nAB {k : Nat} (hk : k < 22) : (nA k = 5 ∧ nB k = 8) ∨ (nA k = 6 ∧ nB k = 10) ∨ (nB k = 0 ∧ nA k ≠ 5 ∧ nA k ≠ 6) := by
  have := List.all_eq_true.1 nAB_ok k (List.mem_range.2 hk)
  simpa [or_assoc] using this

set_option maxRecDepth 20000 in
set_option maxHeartbeats 2000000 in
theorem wrong_clo (w : World) (fb cb pb : Nat) (so : Option Addr) (np sc : Nat) (fr : Nat → Int) (num : Nat) (p : PR) (q : Hd) (dv tv : Value) (h : Rdy w fb cb pb so np sc fr num p q dv tv) (hf0 : 0 ≤ p.free) (a b : Int) (hb1 : -9223372036854775808 ≤ b) (hb2 : b ≤ 9223372036854775807) (tA : thr np p 5 a = true) (tB : thr np p 8 b = true) :
    Calls Try.prog 33 #[.pointer (some ⟨fb, 0, none⟩), .agg #[.int .i64 10, .int .i64 a, .int .i64 b]] w fun e w' => e = .returned (.int .i64 (wrongM np fr p 10 a b : Int)) ∧ Fr (fun _ => False) w w' := by
  have HO : Hid (isIn 10 1 21 = true ∧ isIn 16 1 21 = true) := ⟨rfl, rfl⟩
  have c7 : w.cell? ⟨fb, 7, none⟩ = some (.pointer (some ⟨cb, 0, none⟩)) := cell_row h.fo rfl
  have d0 : w.cell? ⟨cb, 0, none⟩ = some (.slice so np sc) := cell_row h.ch.ch (chC_0 _ _)
  obtain ⟨n0, n1, n2, n3, n4⟩ := h.ch.need (k := 10) (by decide)
  replace n0 : w.cell? ⟨cb, 2 + 10 * 5, none⟩ = some (.int .i64 5) := n0
  replace n1 : w.cell? ⟨cb, 2 + 10 * 5 + 1, none⟩ = some (.int .i64 8) := n1
  replace n2 : w.cell? ⟨cb, 2 + 10 * 5 + 2, none⟩ = some (.int .i64 0) := n2
  replace n3 : w.cell? ⟨cb, 2 + 10 * 5 + 3, none⟩ = some (.int .i64 1) := n3
  replace n4 : w.cell? ⟨cb, 2 + 10 * 5 + 4, none⟩ = some (.bool false) := n4
  simp only [Nat.reduceMul, Nat.reduceAdd] at n0 n1 n2 n3 n4
  have hfb : fb < w.heap.size := (Array.getElem?_eq_some_iff.1 h.fo).1
  have hcb : cb < w.heap.size := (Array.getElem?_eq_some_iff.1 h.ch.ch).1
  have HR := hide h
  have b4 := h.ch.s1
  have b5 := h.ch.s2
  have HW : Hid (wrongM np fr p 10 a b = if fr a.toNat ≠ b then 34 else 0) := by
    unfold Hid wrongM
    rw [if_neg (by rw [HO.out.1]; decide), if_neg (by simp [nA, nB]), if_neg (by rw [show nA (10 : Int).toNat = 5 from rfl, show nB (10 : Int).toNat = 8 from rfl, tA, tB]; simp)]
    by_cases e : fr a.toNat = b
    · simp [nA, e]
    · simp [nA, e]
  generalize wrongM np fr p 10 a b = R at *
  have tA2 : 0 ≤ a ∧ a ≤ (np : Int) - 1 := by simpa [thr, isIn] using tA
  obtain ⟨j, rfl⟩ : ∃ j : Nat, a = (j : Int) := ⟨a.toNat, by omega⟩
  have hj : j < np := by omega
  rcases h.ch.fr with e | ⟨g, off, e, hfr⟩
  · omega
  subst e
  have f0 := hfr j hj
  have hg : g < w.heap.size := World.block_lt_of_cell? w _ f0
  clear hfr tA2 h
  by_cases hfb2 : fr j = b
  · have nf : (fr j != fr j) = false := by simp
    subst hfb2
    go_enter Try.func33, Try.ntmps33
    go_wp2_with (first
        | (go_at_call 30; refine (within_any _ _ _ _).mono ?_; rintro e w' ⟨rfl, rfl⟩; rw [HO.out.1])
        | (go_at_call 39; refine (isThere_any _ fb cb pb _ np sc fr num p q dv tv (HR.out.new (by repeat (first | exact Fr.refl _ _ | apply Fr.alloc | apply Fr.drew | apply Fr.drewN))) hf0 _ _).mono ?_; rintro e w' ⟨rfl, rfl⟩))
    go_region
    go_wp2_with (first
        | (go_at_call 30; refine (within_any _ _ _ _).mono ?_; rintro e w' ⟨rfl, rfl⟩; rw [HO.out.1])
        | (go_at_call 39; refine (isThere_any _ fb cb pb _ np sc fr num p q dv tv (HR.out.new (by repeat (first | exact Fr.refl _ _ | apply Fr.alloc | apply Fr.drew | apply Fr.drewN))) hf0 _ _).mono ?_; rintro e w' ⟨rfl, rfl⟩))
    go_quiet (fail)
    go_wp2
    go_quiet (fail)
    go_wp2
    go_ret
    exact ⟨retI (by rw [HW.out]; simp), (by repeat (first | exact Fr.refl _ _ | apply Fr.alloc | apply Fr.drew | apply Fr.drewN))⟩
  · have nf : (fr j != b) = true := by simpa using hfb2
    have HF := hide hfb2
    clear hfb2
    go_enter Try.func33, Try.ntmps33
    go_wp2_with (first
        | (go_at_call 30; refine (within_any _ _ _ _).mono ?_; rintro e w' ⟨rfl, rfl⟩; rw [HO.out.1])
        | (go_at_call 39; refine (isThere_any _ fb cb pb _ np sc fr num p q dv tv (HR.out.new (by repeat (first | exact Fr.refl _ _ | apply Fr.alloc | apply Fr.drew | apply Fr.drewN))) hf0 _ _).mono ?_; rintro e w' ⟨rfl, rfl⟩))
    go_region
    go_wp2_with (first
        | (go_at_call 30; refine (within_any _ _ _ _).mono ?_; rintro e w' ⟨rfl, rfl⟩; rw [HO.out.1])
        | (go_at_call 39; refine (isThere_any _ fb cb pb _ np sc fr num p q dv tv (HR.out.new (by repeat (first | exact Fr.refl _ _ | apply Fr.alloc | apply Fr.drew | apply Fr.drewN))) hf0 _ _).mono ?_; rintro e w' ⟨rfl, rfl⟩))
    go_quiet (fail)
    go_wp2
    go_ret
    exact ⟨retI (by rw [HW.out]; simp [HF.out]), (by repeat (first | exact Fr.refl _ _ | apply Fr.alloc | apply Fr.drew | apply Fr.drewN))⟩

set_option maxRecDepth 20000 in
set_option maxHeartbeats 2000000 in
theorem wrong_prim (w : World) (fb cb pb : Nat) (so : Option Addr) (np sc : Nat) (fr : Nat → Int) (num : Nat) (p : PR) (q : Hd) (dv tv : Value) (h : Rdy w fb cb pb so np sc fr num p q dv tv) (hf0 : 0 ≤ p.free) (a b : Int) (hb1 : -9223372036854775808 ≤ b) (hb2 : b ≤ 9223372036854775807) (tA : thr np p 6 a = true) (tB : thr np p 10 b = true) :
    Calls Try.prog 33 #[.pointer (some ⟨fb, 0, none⟩), .agg #[.int .i64 16, .int .i64 a, .int .i64 b]] w fun e w' => e = .returned (.int .i64 (wrongM np fr p 16 a b : Int)) ∧ Fr (fun _ => False) w w' := by
  have HO : Hid (isIn 10 1 21 = true ∧ isIn 16 1 21 = true) := ⟨rfl, rfl⟩
  have c7 : w.cell? ⟨fb, 7, none⟩ = some (.pointer (some ⟨cb, 0, none⟩)) := cell_row h.fo rfl
  have d0 : w.cell? ⟨cb, 0, none⟩ = some (.slice so np sc) := cell_row h.ch.ch (chC_0 _ _)
  obtain ⟨n0, n1, n2, n3, n4⟩ := h.ch.need (k := 16) (by decide)
  replace n0 : w.cell? ⟨cb, 2 + 16 * 5, none⟩ = some (.int .i64 6) := n0
  replace n1 : w.cell? ⟨cb, 2 + 16 * 5 + 1, none⟩ = some (.int .i64 10) := n1
  replace n2 : w.cell? ⟨cb, 2 + 16 * 5 + 2, none⟩ = some (.int .i64 0) := n2
  replace n3 : w.cell? ⟨cb, 2 + 16 * 5 + 3, none⟩ = some (.int .i64 1) := n3
  replace n4 : w.cell? ⟨cb, 2 + 16 * 5 + 4, none⟩ = some (.bool false) := n4
  simp only [Nat.reduceMul, Nat.reduceAdd] at n0 n1 n2 n3 n4
  have hfb : fb < w.heap.size := (Array.getElem?_eq_some_iff.1 h.fo).1
  have hcb : cb < w.heap.size := (Array.getElem?_eq_some_iff.1 h.ch.ch).1
  have HR := hide h
  have b4 := h.ch.s1
  have b5 := h.ch.s2
  have HW : Hid (wrongM np fr p 16 a b = if takesM a b = false then 34 else 0) := by
    unfold Hid wrongM
    rw [if_neg (by rw [HO.out.2]; decide), if_neg (by simp [nA, nB]), if_neg (by rw [show nA (16 : Int).toNat = 6 from rfl, show nB (16 : Int).toNat = 10 from rfl, tA, tB]; simp), if_neg (by simp [nA])]
    by_cases e : takesM a b = false
    · simp [nA, e]
    · simp [nA, e]
  generalize wrongM np fr p 16 a b = R at *
  have tA2 : 0 ≤ a ∧ a ≤ 91 := by simpa [thr, isIn] using tA
  obtain ⟨j, rfl⟩ : ∃ j : Nat, a = (j : Int) := ⟨a.toNat, by omega⟩
  have hj : j < 92 := by omega
  clear tA2 h
  obtain ⟨tk, htk⟩ : ∃ tk, takesM (j : Int) b = tk := ⟨_, rfl⟩
  have HT := hide htk
  clear htk
  go_enter Try.func33, Try.ntmps33
  go_wp2_with (first
      | (go_at_call 30; refine (within_any _ _ _ _).mono ?_; rintro e w' ⟨rfl, rfl⟩; rw [HO.out.2])
      | (go_at_call 39; refine (isThere_any _ fb cb pb _ np sc fr num p q dv tv (HR.out.new (by repeat (first | exact Fr.refl _ _ | apply Fr.alloc | apply Fr.drew | apply Fr.drewN))) hf0 _ _).mono ?_; rintro e w' ⟨rfl, rfl⟩))
  go_region
  go_wp2_with (first
      | (go_at_call 30; refine (within_any _ _ _ _).mono ?_; rintro e w' ⟨rfl, rfl⟩; rw [HO.out.2])
      | (go_at_call 39; refine (isThere_any _ fb cb pb _ np sc fr num p q dv tv (HR.out.new (by repeat (first | exact Fr.refl _ _ | apply Fr.alloc | apply Fr.drew | apply Fr.drewN))) hf0 _ _).mono ?_; rintro e w' ⟨rfl, rfl⟩))
  go_quiet (fail)
  go_wp2
  go_region_held3 (fun w' => w'.cell? ⟨w.heap.size + 1, 0, none⟩ = some (.int .i64 6) ∧ w'.cell? ⟨fb, 7, none⟩ = some (.pointer (some ⟨cb, 0, none⟩)) ∧ w'.cell? ⟨w.heap.size, 1, none⟩ = some (.int .i64 (j : Int)) ∧ w'.cell? ⟨w.heap.size, 2, none⟩ = some (.int .i64 b)) (go_keep)
    (first | (go_at_call 40; refine (takes_any _ cb pb so np sc fr j b (HR.out.new (by repeat (first | exact Fr.refl _ _ | apply Fr.alloc | apply Fr.drew | apply Fr.drewN))).ch hj hb1 hb2).mono ?_; rintro e w9 ⟨rfl, u9⟩; rw [HT.out]; have p0 : w9.cell? ⟨w.heap.size + 1, 0, none⟩ = some (.int .i64 6) := (u9.cell (by simp <;> omega) (fun e => e)).trans (by simp); have p1 : w9.cell? ⟨fb, 7, none⟩ = some (.pointer (some ⟨cb, 0, none⟩)) := (u9.cell (by simp <;> omega) (fun e => e)).trans ((Fr.cell (S := fun _ => False) (w := w) (by repeat (first | exact Fr.refl _ _ | apply Fr.alloc | apply Fr.drew | apply Fr.drewN)) hfb (fun e => e)).trans c7); have p2 : w9.cell? ⟨w.heap.size, 1, none⟩ = some (.int .i64 (j : Int)) := (u9.cell (by simp <;> omega) (fun e => e)).trans (by simp); have p3 : w9.cell? ⟨w.heap.size, 2, none⟩ = some (.int .i64 b) := (u9.cell (by simp <;> omega) (fun e => e)).trans (by simp); have HU9 := hide u9; clear u9))
  cases tk
  · go_wp2
    go_ret
    exact ⟨retI (by rw [HW.out]; simp [HT.out]), Fr.trans (S := fun _ => False) (by repeat (first | exact Fr.refl _ _ | apply Fr.alloc | apply Fr.drew | apply Fr.drewN)) HU9.out (fun _ _ e => e)⟩
  · go_wp2
    go_ret
    exact ⟨retI (by rw [HW.out]; simp [HT.out]), Fr.trans (S := fun _ => False) (by repeat (first | exact Fr.refl _ _ | apply Fr.alloc | apply Fr.drew | apply Fr.drewN)) HU9.out (fun _ _ e => e)⟩

end Go.Proofs.Ytmogglmofbbjlaa
