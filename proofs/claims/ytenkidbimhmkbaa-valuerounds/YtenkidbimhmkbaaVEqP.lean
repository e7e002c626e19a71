/-
  What is proved here: package value's sameParts of two objects of two fields.
-/
import Derived.Test.YtenkidbimhmkbaaVEqR
import Derived.Deep.RegionHeld3
namespace Go.Proofs.Ytenkidbimhmkbaa
open Go Go.RowKit

theorem Fr.same {S : Nat → Prop} {w w1 w2 : World} (h : Fr S w w1) (e1 : w2.heap = w1.heap) (e2 : w2.os = w1.os) (e3 : w2.tape = w1.tape) (e4 : w2.output = w1.output) : Fr S w w2 :=
  ⟨e2.trans h.os, e3.trans h.tape, e4.trans h.output, by rw [e1]; exact h.size, fun k hk hn => by rw [e1]; exact h.block k hk hn⟩

set_option maxRecDepth 20000 in
set_option maxHeartbeats 4000000 in
theorem sameParts_f (w : World) (cb sb hb : Nat) (X : Nat → Prop) (sz : Nat) (tm : Int) (n : Nat) (f : Nat → Nat) (st : Nat → Bool) (x y : Nat) (a0 b0 : Nat) (s s1 : Int) (h : HeapAt w hb X sz tm n f st) (hS : w.cell? ⟨sb, 0, none⟩ = some (.pointer (some ⟨hb, 0, none⟩))) (hcX : ¬ X cb) (hcs : cb ≠ sb) (hx : x < 18446744073709551616) (hy : y < 18446744073709551616) (px : hTag (headOf f st x) = 2) (py : hTag (headOf f st y) = 2) (x0 : fieldAt f st x 0 = a0) (y0 : fieldAt f st y 0 = b0) (K0 : EqSays w cb sb s a0 b0 false s1) : PtSays w cb sb s x y false s1 := by
  intro w0 F0 hc
  have hsl : sb < w.heap.size := World.block_lt_of_cell? _ _ hS
  have hne : ((2 : Int) != 2) = false := by decide
  have KT := fun (w1 : World) (F1 : Fr (fun k => k = cb) w w1) => heapTagged_any w1 hb X sz tm n f st x (h.fr F1 (fun k hk e => hcX (e ▸ hk))) hx
  rw [px] at KT
  have KU := fun (w1 : World) (F1 : Fr (fun k => k = cb) w w1) => heapTagged_any w1 hb X sz tm n f st y (h.fr F1 (fun k hk e => hcX (e ▸ hk))) hy
  rw [py] at KU
  have KX := fun (i : Nat) (w1 : World) (F1 : Fr (fun k => k = cb) w w1) => vfield_any w1 sb hb X sz tm n f st x i (h.fr F1 (fun k hk e => hcX (e ▸ hk))) ((F1.cell hsl (fun e => hcs e.symm)).trans hS) hx
  have KY := fun (i : Nat) (w1 : World) (F1 : Fr (fun k => k = cb) w w1) => vfield_any w1 sb hb X sz tm n f st y i (h.fr F1 (fun k hk e => hcX (e ▸ hk))) ((F1.cell hsl (fun e => hcs e.symm)).trans hS) hy
  have KX0 := KX 0
  have KY0 := KY 0
  rw [x0] at KX0
  rw [y0] at KY0
  have KS : ∀ w1, Fr (fun k => k = cb) w w1 → w1.cell? ⟨sb, 0, none⟩ = some (.pointer (some ⟨hb, 0, none⟩)) := fun w1 F1 => (F1.cell hsl (fun e => hcs e.symm)).trans hS
  have c0 := cell_of_row w0 cb 0 _ _ _ hc
  have cs := KS w0 F0
  have HT := hide KT
  have HU := hide KU
  have HX0 := hide KX0
  have HY0 := hide KY0
  have HKS := hide KS
  have HF0 := hide F0
  have HC0 := hide hc
  have HK0 := hide K0
  clear KT KU KX KY KX0 KY0 KS F0 hc h hS K0 x0 y0 px py
  go_enter Try.func118, Try.ntmps118
  go_wp2
  go_quiet ((first
    | (go_at_call_of 34 (Value.int .u64 (x : Int)); exact Calls.quiet_of (HT.out _ (HF0.out.drewN _)))
    | (go_at_call_of 34 (Value.int .u64 (y : Int)); exact Calls.quiet_of (HU.out _ (HF0.out.drewN _)))))
  go_wp2_with (go_at_call 34; refine (HT.out _ (HF0.out.drewN _)).mono ?_; rintro e w1 ⟨rfl, q1, hq1⟩; replace hq1 : w1 = w0.drewN (nq + q1) := (by rw [hq1]; simp); subst hq1)
  refine wp_loop_rounds 1 ?_
  rw [rounds_succ]
  go_wp2
  go_region_held3 (fun w' => w'.cell? ⟨cb, 0, none⟩ = some (.pointer (some ⟨sb, 0, none⟩))) (go_keep)
    (first
      | (go_at_call_of 59 (Value.int .u64 (x : Int)); refine (HX0.out _ ?_).mono ?_; exact HF0.out.same rfl rfl rfl rfl; rintro e wx ⟨rfl, qx, rfl⟩)
      | (go_at_call_of 59 (Value.int .u64 (y : Int)); refine (HY0.out _ ?_).mono ?_; exact HF0.out.same rfl rfl rfl rfl; rintro e wx ⟨rfl, qy, rfl⟩)
      | (go_at_call 81; refine (HK0.out _ ?_ ?_).mono ?_; exact HF0.out.same rfl rfl rfl rfl; exact HC0.out; rintro e w5 ⟨rfl, C5, F5⟩; have c5 := cell_of_row w5 cb 0 _ _ _ C5; have HC5 := hide C5; have HF5 := hide F5; clear C5 F5))
  all_goals
    go_wp2
    go_ret
    exact ⟨rfl, HC5.out, Fr.trans ((Fr.refl _ w0).drewN _) HF5.out (fun _ _ e => e)⟩

set_option maxRecDepth 20000 in
set_option maxHeartbeats 8000000 in
theorem sameParts_t (w : World) (cb sb hb : Nat) (X : Nat → Prop) (sz : Nat) (tm : Int) (n : Nat) (f : Nat → Nat) (st : Nat → Bool) (x y : Nat) (a0 b0 a1 b1 : Nat) (s s1 s2 : Int) (h : HeapAt w hb X sz tm n f st) (hS : w.cell? ⟨sb, 0, none⟩ = some (.pointer (some ⟨hb, 0, none⟩))) (hcX : ¬ X cb) (hcs : cb ≠ sb) (hx : x < 18446744073709551616) (hy : y < 18446744073709551616) (px : hTag (headOf f st x) = 2) (py : hTag (headOf f st y) = 2) (x0 : fieldAt f st x 0 = a0) (y0 : fieldAt f st y 0 = b0) (x1 : fieldAt f st x 1 = a1) (y1 : fieldAt f st y 1 = b1) (r : Bool) (K0 : EqSays w cb sb s a0 b0 true s1) (K1 : EqSays w cb sb s1 a1 b1 r s2) : PtSays w cb sb s x y r s2 := by
  intro w0 F0 hc
  have hsl : sb < w.heap.size := World.block_lt_of_cell? _ _ hS
  have hne : ((2 : Int) != 2) = false := by decide
  have KT := fun (w1 : World) (F1 : Fr (fun k => k = cb) w w1) => heapTagged_any w1 hb X sz tm n f st x (h.fr F1 (fun k hk e => hcX (e ▸ hk))) hx
  rw [px] at KT
  have KU := fun (w1 : World) (F1 : Fr (fun k => k = cb) w w1) => heapTagged_any w1 hb X sz tm n f st y (h.fr F1 (fun k hk e => hcX (e ▸ hk))) hy
  rw [py] at KU
  have KX := fun (i : Nat) (w1 : World) (F1 : Fr (fun k => k = cb) w w1) => vfield_any w1 sb hb X sz tm n f st x i (h.fr F1 (fun k hk e => hcX (e ▸ hk))) ((F1.cell hsl (fun e => hcs e.symm)).trans hS) hx
  have KY := fun (i : Nat) (w1 : World) (F1 : Fr (fun k => k = cb) w w1) => vfield_any w1 sb hb X sz tm n f st y i (h.fr F1 (fun k hk e => hcX (e ▸ hk))) ((F1.cell hsl (fun e => hcs e.symm)).trans hS) hy
  have KX0 := KX 0
  have KX1 := KX 1
  have KY0 := KY 0
  have KY1 := KY 1
  rw [x0] at KX0
  rw [x1] at KX1
  rw [y0] at KY0
  rw [y1] at KY1
  have KS : ∀ w1, Fr (fun k => k = cb) w w1 → w1.cell? ⟨sb, 0, none⟩ = some (.pointer (some ⟨hb, 0, none⟩)) := fun w1 F1 => (F1.cell hsl (fun e => hcs e.symm)).trans hS
  have c0 := cell_of_row w0 cb 0 _ _ _ hc
  have cs := KS w0 F0
  have HT := hide KT
  have HU := hide KU
  have HX0 := hide KX0
  have HX1 := hide KX1
  have HY0 := hide KY0
  have HY1 := hide KY1
  have HKS := hide KS
  have HF0 := hide F0
  have HC0 := hide hc
  have HK0 := hide K0
  have HK1 := hide K1
  clear KT KU KX KY KX0 KX1 KY0 KY1 KS F0 hc h hS K0 K1 x0 x1 y0 y1 px py
  go_enter Try.func118, Try.ntmps118
  go_wp2
  go_quiet ((first
    | (go_at_call_of 34 (Value.int .u64 (x : Int)); exact Calls.quiet_of (HT.out _ (HF0.out.drewN _)))
    | (go_at_call_of 34 (Value.int .u64 (y : Int)); exact Calls.quiet_of (HU.out _ (HF0.out.drewN _)))))
  go_wp2_with (go_at_call 34; refine (HT.out _ (HF0.out.drewN _)).mono ?_; rintro e w1 ⟨rfl, q1, hq1⟩; replace hq1 : w1 = w0.drewN (nq + q1) := (by rw [hq1]; simp); subst hq1)
  cases r with
  | true =>
    refine wp_loop_rounds 3 ?_
    rw [rounds_succ]
    go_wp2
    go_region_held3 (fun w' => w'.cell? ⟨cb, 0, none⟩ = some (.pointer (some ⟨sb, 0, none⟩))) (go_keep)
      (first
        | (go_at_call_of 59 (Value.int .u64 (x : Int)); refine (HX0.out _ ?_).mono ?_; exact HF0.out.same rfl rfl rfl rfl; rintro e wx ⟨rfl, qx, rfl⟩)
        | (go_at_call_of 59 (Value.int .u64 (y : Int)); refine (HY0.out _ ?_).mono ?_; exact HF0.out.same rfl rfl rfl rfl; rintro e wx ⟨rfl, qy, rfl⟩)
        | (go_at_call 81; refine (HK0.out _ ?_ ?_).mono ?_; exact HF0.out.same rfl rfl rfl rfl; exact HC0.out; rintro e w5 ⟨rfl, C5, F5⟩; have c5 := cell_of_row w5 cb 0 _ _ _ C5; have HC5 := hide C5; have HF5 : Hid (Fr (fun k => k = cb) w0 w5) := hide (Fr.trans ((Fr.refl _ w0).drewN _) F5 (fun _ _ e => e)); have HFW5 : Hid (Fr (fun k => k = cb) w w5) := hide (Fr.trans HF0.out HF5.out (fun _ _ e => e)); clear C5 F5))
    all_goals
      go_wp2
      rw [rounds_succ]
      go_wp2
      go_region_held3 (fun w' => w'.cell? ⟨cb, 0, none⟩ = some (.pointer (some ⟨sb, 0, none⟩))) (go_keep)
        (first
          | (go_at_call_of 59 (Value.int .u64 (x : Int)); refine (HX1.out _ ?_).mono ?_; exact HFW5.out.same rfl rfl rfl rfl; rintro e wx ⟨rfl, qx, rfl⟩)
          | (go_at_call_of 59 (Value.int .u64 (y : Int)); refine (HY1.out _ ?_).mono ?_; exact HFW5.out.same rfl rfl rfl rfl; rintro e wx ⟨rfl, qy, rfl⟩)
          | (go_at_call 81; refine (HK1.out _ ?_ ?_).mono ?_; exact HFW5.out.same rfl rfl rfl rfl; exact HC5.out; rintro e w6 ⟨rfl, C6, F6⟩; have c6 := cell_of_row w6 cb 0 _ _ _ C6; have HC6 := hide C6; have HF6 : Hid (Fr (fun k => k = cb) w0 w6) := hide (Fr.trans HF5.out (Fr.trans ((Fr.refl _ w5).drewN _) F6 (fun _ _ e => e)) (fun _ _ e => e)); clear C6 F6))
    all_goals
      go_wp2
      rw [rounds_succ]
      go_wp2
      go_ret
      exact ⟨rfl, HC6.out, HF6.out⟩
  | false =>
    refine wp_loop_rounds 2 ?_
    rw [rounds_succ]
    go_wp2
    go_region_held3 (fun w' => w'.cell? ⟨cb, 0, none⟩ = some (.pointer (some ⟨sb, 0, none⟩))) (go_keep)
      (first
        | (go_at_call_of 59 (Value.int .u64 (x : Int)); refine (HX0.out _ ?_).mono ?_; exact HF0.out.same rfl rfl rfl rfl; rintro e wx ⟨rfl, qx, rfl⟩)
        | (go_at_call_of 59 (Value.int .u64 (y : Int)); refine (HY0.out _ ?_).mono ?_; exact HF0.out.same rfl rfl rfl rfl; rintro e wx ⟨rfl, qy, rfl⟩)
        | (go_at_call 81; refine (HK0.out _ ?_ ?_).mono ?_; exact HF0.out.same rfl rfl rfl rfl; exact HC0.out; rintro e w5 ⟨rfl, C5, F5⟩; have c5 := cell_of_row w5 cb 0 _ _ _ C5; have HC5 := hide C5; have HF5 : Hid (Fr (fun k => k = cb) w0 w5) := hide (Fr.trans ((Fr.refl _ w0).drewN _) F5 (fun _ _ e => e)); have HFW5 : Hid (Fr (fun k => k = cb) w w5) := hide (Fr.trans HF0.out HF5.out (fun _ _ e => e)); clear C5 F5))
    all_goals
      go_wp2
      rw [rounds_succ]
      go_wp2
      go_region_held3 (fun w' => w'.cell? ⟨cb, 0, none⟩ = some (.pointer (some ⟨sb, 0, none⟩))) (go_keep)
        (first
          | (go_at_call_of 59 (Value.int .u64 (x : Int)); refine (HX1.out _ ?_).mono ?_; exact HFW5.out.same rfl rfl rfl rfl; rintro e wx ⟨rfl, qx, rfl⟩)
          | (go_at_call_of 59 (Value.int .u64 (y : Int)); refine (HY1.out _ ?_).mono ?_; exact HFW5.out.same rfl rfl rfl rfl; rintro e wx ⟨rfl, qy, rfl⟩)
          | (go_at_call 81; refine (HK1.out _ ?_ ?_).mono ?_; exact HFW5.out.same rfl rfl rfl rfl; exact HC5.out; rintro e w6 ⟨rfl, C6, F6⟩; have c6 := cell_of_row w6 cb 0 _ _ _ C6; have HC6 := hide C6; have HF6 : Hid (Fr (fun k => k = cb) w0 w6) := hide (Fr.trans HF5.out (Fr.trans ((Fr.refl _ w5).drewN _) F6 (fun _ _ e => e)) (fun _ _ e => e)); clear C6 F6))
    all_goals
      go_wp2
      go_ret
      exact ⟨rfl, HC6.out, HF6.out⟩

end Go.Proofs.Ytenkidbimhmkbaa
