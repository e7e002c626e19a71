/-
  What is proved here: mayBeWritten, and pack.Write of any protos that lie there.
-/
import Derived.Test.YtilcigjhogcjkaaPKWr
namespace Go.Proofs.Ytilcigjhogcjkaa
open Go Go.RowKit

theorem PBx.fr {w w' : World} {B : Nat} {c0 c1 c2 c3 c4 c5 c6 : Value} (h : PBx w B c0 c1 c2 c3 c4 c5 c6) (hf : Fr (fun _ => False) w w') : PBx w' B c0 c1 c2 c3 c4 c5 c6 := (hf.block B (Array.getElem?_eq_some_iff.1 h).1 (fun e => e)).trans h
theorem fr_box {w w' : World} {o : Obj} (h : Fr (fun k => k = w.heap.size) (w.alloc o) w') : Fr (fun _ => False) w w' := Fr.trans (S := fun _ => False) ((Fr.refl _ w).alloc o) h (fun x hx e => by omega)

theorem Fr.upw' {w w' : World} (h : Fr (fun _ => False) w w') : Up w w' := ⟨h.os, h.tape, h.output, h.size, fun k hk => h.block k hk (fun e => e)⟩
set_option maxRecDepth 100000 in
set_option maxHeartbeats 2000000 in
theorem mayBe_any {N : Nat} (w : World) (ps : List (PC N)) (v : Value) (hr : RowD w (PCell w) v ps) :
    Calls Try.prog 18 #[v] w fun e w' => e = .returned (.bool (mayW ps)) ∧ Fr (fun _ => False) w w' := by
  obtain ⟨ao, cap, rfl⟩ := hr.shape
  have hIl : ps.length ≤ cap ∧ cap ≤ 9223372036854775807 := by
    obtain ⟨ao', cap', e, h1, h2, -⟩ := hr
    cases e
    exact ⟨h1, h2⟩
  obtain ⟨r, hrr⟩ : ∃ r, r = mayW ps := ⟨_, rfl⟩
  rw [← hrr]
  have HRR := hide hrr
  have HR := hide hr
  have HCT : Hid (CtAt (w.alloc (.cells #[.int .i64 20000] 78)) w.heap.size 20000) := hide (heap_alloc_new w _)
  clear hrr hr
  go_enter Try.func18, Try.ntmps18
  go_wp2
  go_loopw [9] (fun u wr => ∃ i m : Nat, u = .int .i64 (i : Int) ∧ i ≤ ps.length ∧ 20000 = m + kA ps i ∧ CtAt wr w.heap.size m ∧ (∀ j (hj : j < ps.length), j < i → goodP ps[j] = true) ∧ Fr (fun k => k = w.heap.size) (w.alloc (.cells #[.int .i64 20000] 78)) wr) (fun u _ => ps.length - (intOf u).toNat)
  case atStart => exact ⟨0, 20000, rfl, Nat.zero_le _, by simp [kA], HCT.out, (fun j _ hj => by omega), Fr.refl _ _⟩
  case round =>
    clear HCT
    obtain ⟨i, m, rfl, hi, hm, hct, hgd, hF⟩ := hrel
    have hup : Up w wr := (fr_box hF).upw'
    by_cases hil : i < ps.length
    · obtain ⟨g, off, rfl, co, cc, ka, kc, na, nc, hd, e0, e1, e2, e3, e4, e5, e6⟩ := proto_cells HR.out hup hil
      have hch := kA_succ ps i hil
      have hcn := kA_le ps (i + 1)
      have hbad : goodP ps[i] = false → ps.all goodP = false := fun e => all_bad hil e
      have hgood : goodP ps[i] = true → ∀ j (hj : j < ps.length), j < i + 1 → goodP ps[j] = true := fun e j hj hjk => by
        by_cases ej : j = i
        · subst ej; exact e
        · exact hgd j hj (by omega)
      generalize ps[i] = p at *
      obtain ⟨co', cc', ka', kc', na', nc', ecs, hco, hks, hns⟩ := hd
      injection ecs with q0 ecs
      injection ecs with q1 ecs
      injection ecs with q2 ecs
      injection ecs with q3 ecs
      injection ecs with q4 ecs
      injection ecs with q5 ecs
      rw [q4] at e4
      rw [q5] at e5
      injection q4 with qa qb qc
      injection q5 with qd qe qf
      subst qa qc qd qf
      clear ecs q0 q1 q2 q3 qb qe
      have hcw : w.heap.size < wr.heap.size := hct.lt
      have hm20 : m ≤ 20000 := by omega
      obtain ⟨b4, hb4⟩ : ∃ x, x = (p.ks.all (goodD N 100) && decide (ptsA N p.ks ≤ m)) := ⟨_, rfl⟩
      have HI1 := hide (fun (W : World) => isNumber_any p.args W)
      have HI2 := hide (fun (W : World) => isNumber_any p.free W)
      have HI3 := hide (fun (W : World) (hf : Fr (fun _ => False) wr W) => codeFits_any w W co cc p.code hco (up_new hup hf))
      have HI4 := hide (fun (W : World) (hf : Fr (fun _ => False) wr W) => show Calls Try.prog 39 #[.pointer (some ⟨w.heap.size, 0, none⟩), .slice ka p.ks.length kc, .int .i64 100] W fun e w' => DF W w.heap.size m (ptsA N p.ks) b4 e w' by rw [hb4]; exact dataFit_all N w W w.heap.size m p.ks (.slice ka p.ks.length kc) 100 hks (up_new hup hf) (Nat.le_refl _) (hct.fr hf) hm20 (Nat.le_refl _))
      have HB0 : Hid (PBx (wr.alloc (.cells #[.string p.nm, .int .i64 p.args, .int .i64 p.free, .bool p.rest, .slice co p.code.length cc, .slice ka p.ks.length kc, .slice na p.ns.length nc] 48)) wr.heap.size (.string p.nm) (.int .i64 p.args) (.int .i64 p.free) (.bool p.rest) (.slice co p.code.length cc) (.slice ka p.ks.length kc) (.slice na p.ns.length nc)) := hide (heap_alloc_new wr _)
      have HFR := hide hF
      have hkI : (i : Int) < (ps.length : Int) := by omega
      have HX : Hid (goodP p = (isNum p.args && (isNum p.free && (p.code.all goodI && p.ks.all (goodD N 100))))) := rfl
      generalize isNum p.args = b1 at *
      generalize isNum p.free = b2 at *
      generalize p.code.all goodI = b3 at *
      have HBD : Hid ((b1 && (b2 && (b3 && b4))) = false → r = false) := fun e => by
        rw [HRR.out]
        unfold mayW
        cases hx : p.ks.all (goodD N 100) with
        | false => rw [hbad (by rw [HX.out, hx]; simp)]; rfl
        | true =>
          rw [hx, Bool.true_and] at hb4
          by_cases hp : ptsA N p.ks ≤ m
          · rw [hb4, decide_eq_true hp] at e
            rw [hbad (by rw [HX.out, hx]; exact e)]
            rfl
          · rw [decide_eq_false (by omega), Bool.and_false]
      have HGD : Hid ((b1 && (b2 && (b3 && b4))) = true → 20000 = (m - ptsA N p.ks) + kA ps (i + 1) ∧ ∀ j (hj : j < ps.length), j < i + 1 → goodP ps[j] = true) := fun e => by
        simp only [Bool.and_eq_true] at e
        obtain ⟨f1, f2, f3, f4⟩ := e
        rw [hb4, Bool.and_eq_true, decide_eq_true_eq] at f4
        exact ⟨by omega, hgood (by rw [HX.out, f1, f2, f3, f4.1]; rfl)⟩
      clear hch hcn hbad hgood hgd hF hct hm hm20 hb4 hco hks hns hup HX
      cases b1
      · have HF := hide (HBD.out (by simp))
        go_wp2_with (first
          | (go_at_call_of 37 (Value.int IntKind.i64 p.args); refine (HI1.out _).mono ?_; rintro e5 w5 ⟨rfl, rfl⟩)
          | (go_at_call_of 37 (Value.int IntKind.i64 p.free); refine (HI2.out _).mono ?_; rintro e6 w6 ⟨rfl, rfl⟩)
          | (go_at_call 38; refine (HI3.out _ ((Fr.refl _ _).alloc _)).mono ?_; rintro e7 w7 ⟨rfl, F7⟩; have b7 := HB0.out.fr F7; have y70 := b7.k0; have y71 := b7.k1; have y72 := b7.k2; have y73 := b7.k3; have y74 := b7.k4; have y75 := b7.k5; have y76 := b7.k6; have HF7 := hide (Fr.trans (S := fun _ => False) ((Fr.refl _ wr).alloc _) F7 (fun _ _ e => e)); clear F7 b7)
          | (go_at_call 39; refine (HI4.out _ HF7.out).mono ?_; rintro e8 w8 ⟨rfl, hc8, F8⟩; have HF8 := hide (Fr.trans (S := fun k => k = w.heap.size) (HF7.out.mono (fun _ _ e => e.elim)) F8 (fun _ _ e => e)); have HC8 := hide hc8; clear F8 hc8))
        go_ret
        exact ⟨by rw [HF.out]; rfl, fr_box (HFR.out.trans ((Fr.refl (fun _ => False) wr).alloc (.cells #[.string p.nm, .int .i64 p.args, .int .i64 p.free, .bool p.rest, .slice co p.code.length cc, .slice ka p.ks.length kc, .slice na p.ns.length nc] 48)) (fun _ _ e => e.elim))⟩
      · cases b2
        · have HF := hide (HBD.out (by simp))
          go_wp2_with (first
            | (go_at_call_of 37 (Value.int IntKind.i64 p.args); refine (HI1.out _).mono ?_; rintro e5 w5 ⟨rfl, rfl⟩)
            | (go_at_call_of 37 (Value.int IntKind.i64 p.free); refine (HI2.out _).mono ?_; rintro e6 w6 ⟨rfl, rfl⟩)
            | (go_at_call 38; refine (HI3.out _ ((Fr.refl _ _).alloc _)).mono ?_; rintro e7 w7 ⟨rfl, F7⟩; have b7 := HB0.out.fr F7; have y70 := b7.k0; have y71 := b7.k1; have y72 := b7.k2; have y73 := b7.k3; have y74 := b7.k4; have y75 := b7.k5; have y76 := b7.k6; have HF7 := hide (Fr.trans (S := fun _ => False) ((Fr.refl _ wr).alloc _) F7 (fun _ _ e => e)); clear F7 b7)
            | (go_at_call 39; refine (HI4.out _ HF7.out).mono ?_; rintro e8 w8 ⟨rfl, hc8, F8⟩; have HF8 := hide (Fr.trans (S := fun k => k = w.heap.size) (HF7.out.mono (fun _ _ e => e.elim)) F8 (fun _ _ e => e)); have HC8 := hide hc8; clear F8 hc8))
          go_ret
          exact ⟨by rw [HF.out]; rfl, fr_box (HFR.out.trans ((Fr.refl (fun _ => False) wr).alloc (.cells #[.string p.nm, .int .i64 p.args, .int .i64 p.free, .bool p.rest, .slice co p.code.length cc, .slice ka p.ks.length kc, .slice na p.ns.length nc] 48)) (fun _ _ e => e.elim))⟩
        · cases b3
          · have HF := hide (HBD.out (by simp))
            go_wp2_with (first
              | (go_at_call_of 37 (Value.int IntKind.i64 p.args); refine (HI1.out _).mono ?_; rintro e5 w5 ⟨rfl, rfl⟩)
              | (go_at_call_of 37 (Value.int IntKind.i64 p.free); refine (HI2.out _).mono ?_; rintro e6 w6 ⟨rfl, rfl⟩)
              | (go_at_call 38; refine (HI3.out _ ((Fr.refl _ _).alloc _)).mono ?_; rintro e7 w7 ⟨rfl, F7⟩; have b7 := HB0.out.fr F7; have y70 := b7.k0; have y71 := b7.k1; have y72 := b7.k2; have y73 := b7.k3; have y74 := b7.k4; have y75 := b7.k5; have y76 := b7.k6; have HF7 := hide (Fr.trans (S := fun _ => False) ((Fr.refl _ wr).alloc _) F7 (fun _ _ e => e)); clear F7 b7)
              | (go_at_call 39; refine (HI4.out _ HF7.out).mono ?_; rintro e8 w8 ⟨rfl, hc8, F8⟩; have HF8 := hide (Fr.trans (S := fun k => k = w.heap.size) (HF7.out.mono (fun _ _ e => e.elim)) F8 (fun _ _ e => e)); have HC8 := hide hc8; clear F8 hc8))
            go_ret
            exact ⟨by rw [HF.out]; rfl, fr_box (HFR.out.trans HF7.out (fun _ _ e => e.elim))⟩
          · cases b4
            · have HF := hide (HBD.out (by simp))
              go_wp2_with (first
                | (go_at_call_of 37 (Value.int IntKind.i64 p.args); refine (HI1.out _).mono ?_; rintro e5 w5 ⟨rfl, rfl⟩)
                | (go_at_call_of 37 (Value.int IntKind.i64 p.free); refine (HI2.out _).mono ?_; rintro e6 w6 ⟨rfl, rfl⟩)
                | (go_at_call 38; refine (HI3.out _ ((Fr.refl _ _).alloc _)).mono ?_; rintro e7 w7 ⟨rfl, F7⟩; have b7 := HB0.out.fr F7; have y70 := b7.k0; have y71 := b7.k1; have y72 := b7.k2; have y73 := b7.k3; have y74 := b7.k4; have y75 := b7.k5; have y76 := b7.k6; have HF7 := hide (Fr.trans (S := fun _ => False) ((Fr.refl _ wr).alloc _) F7 (fun _ _ e => e)); clear F7 b7)
                | (go_at_call 39; refine (HI4.out _ HF7.out).mono ?_; rintro e8 w8 ⟨rfl, hc8, F8⟩; have HF8 := hide (Fr.trans (S := fun k => k = w.heap.size) (HF7.out.mono (fun _ _ e => e.elim)) F8 (fun _ _ e => e)); have HC8 := hide hc8; clear F8 hc8))
              go_ret
              exact ⟨by rw [HF.out]; rfl, fr_box (HFR.out.trans HF8.out (fun _ _ e => e))⟩
            · have HG := hide (HGD.out rfl)
              go_wp2_with (first
                | (go_at_call_of 37 (Value.int IntKind.i64 p.args); refine (HI1.out _).mono ?_; rintro e5 w5 ⟨rfl, rfl⟩)
                | (go_at_call_of 37 (Value.int IntKind.i64 p.free); refine (HI2.out _).mono ?_; rintro e6 w6 ⟨rfl, rfl⟩)
                | (go_at_call 38; refine (HI3.out _ ((Fr.refl _ _).alloc _)).mono ?_; rintro e7 w7 ⟨rfl, F7⟩; have b7 := HB0.out.fr F7; have y70 := b7.k0; have y71 := b7.k1; have y72 := b7.k2; have y73 := b7.k3; have y74 := b7.k4; have y75 := b7.k5; have y76 := b7.k6; have HF7 := hide (Fr.trans (S := fun _ => False) ((Fr.refl _ wr).alloc _) F7 (fun _ _ e => e)); clear F7 b7)
                | (go_at_call 39; refine (HI4.out _ HF7.out).mono ?_; rintro e8 w8 ⟨rfl, hc8, F8⟩; have HF8 := hide (Fr.trans (S := fun k => k = w.heap.size) (HF7.out.mono (fun _ _ e => e.elim)) F8 (fun _ _ e => e)); have HC8 := hide hc8; clear F8 hc8))
              exact ⟨⟨i + 1, _, by go_num, hil, HG.out.1, HC8.out (by first | rfl | trivial), HG.out.2, HFR.out.trans HF8.out (fun _ _ e => e)⟩, by simp [intOf]; omega⟩
    · have e : i = ps.length := by omega
      subst e
      have HT : Hid (r = true) := by
        unfold Hid
        rw [HRR.out]
        unfold mayW
        rw [Bool.and_eq_true, decide_eq_true_eq]
        refine ⟨?_, by omega⟩
        rw [List.all_eq_true]
        intro x hx
        obtain ⟨j, hj, rfl⟩ := List.getElem_of_mem hx
        exact hgd j hj hj
      have HFR := hide hF
      have hil' : ¬ ((ps.length : Int) < (ps.length : Int)) := by omega
      clear hgd hF hil hct hm hup
      go_wp2
      go_ret
      exact ⟨by rw [HT.out]; rfl, fr_box HFR.out⟩

end Go.Proofs.Ytilcigjhogcjkaa
