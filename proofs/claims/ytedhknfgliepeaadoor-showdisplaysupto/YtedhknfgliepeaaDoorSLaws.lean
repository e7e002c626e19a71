/-
  What is proved here: tandemref06's Write and Display; tandemlaw06.ShowWrites, ShowDisplays.
-/
import Derived.Test.YtedhknfgliepeaaDoorSRefG
namespace Go.Proofs.YtedhknfgliepeaaDoor
open Go Go.RowKit

set_option maxRecDepth 100000 in
theorem rwrite_any (w : World) (h : Nat) (d : Tr h) (c0 c1 c2 c3 c4 c5 c6 : Value) (hb : bk h d ≤ 10000000) (hd : DatC w h d [c0, c1, c2, c3, c4, c5, c6]) :
    Calls Tryd.prog 8 #[.agg #[c0, c1, c2, c3, c4, c5, c6]] w fun e w' => e = .returned (.string ⟨(wr h false d).toArray⟩) ∧ Up w w' := by
  obtain ⟨kk, kn, kb, um, kt, ui, ur, he, ⟨x1, x2, x3, rfl⟩, ⟨y1, y2, y3, rfl⟩, ⟨z1, z2, z3, rfl⟩⟩ := hd.shapes
  simp at he
  obtain ⟨rfl, rfl, rfl, rfl, rfl, rfl, rfl⟩ := he
  have KT := fun (W : World) (u : Up w W) => rtext_all h false d _ _ _ _ _ _ _ W (hd.up u) hb
  generalize wr h false d = T at *
  have HT := hide KT
  clear KT hd hb
  go_enter Tryd.func8, Tryd.ntmps8
  go_wp2_with (go_at_call 15; refine (HT.out _ (up_alloc w _)).mono ?_; rintro e w2 ⟨rfl, u2⟩)
  go_ret
  exact ⟨rfl, (up_alloc w _).tr u2⟩

set_option maxRecDepth 100000 in
theorem rdisplay_any (w : World) (h : Nat) (d : Tr h) (c0 c1 c2 c3 c4 c5 c6 : Value) (hb : bk h d ≤ 10000000) (hd : DatC w h d [c0, c1, c2, c3, c4, c5, c6]) :
    Calls Tryd.prog 11 #[.agg #[c0, c1, c2, c3, c4, c5, c6]] w fun e w' => e = .returned (.string ⟨(wr h true d).toArray⟩) ∧ Up w w' := by
  obtain ⟨kk, kn, kb, um, kt, ui, ur, he, ⟨x1, x2, x3, rfl⟩, ⟨y1, y2, y3, rfl⟩, ⟨z1, z2, z3, rfl⟩⟩ := hd.shapes
  simp at he
  obtain ⟨rfl, rfl, rfl, rfl, rfl, rfl, rfl⟩ := he
  have KT := fun (W : World) (u : Up w W) => rtext_all h true d _ _ _ _ _ _ _ W (hd.up u) hb
  generalize wr h true d = T at *
  have HT := hide KT
  clear KT hd hb
  go_enter Tryd.func11, Tryd.ntmps11
  go_wp2_with (go_at_call 15; refine (HT.out _ (up_alloc w _)).mono ?_; rintro e w2 ⟨rfl, u2⟩)
  go_ret
  exact ⟨rfl, (up_alloc w _).tr u2⟩

set_option maxHeartbeats 8000000 in
set_option maxRecDepth 100000 in
theorem showWrites_any (w : World) (h : Nat) (d : Tr h) (c0 c1 c2 c3 c4 c5 c6 : Value) (htab : Tab w) (hd : DatC w h d [c0, c1, c2, c3, c4, c5, c6]) (hb : bk h d ≤ 2000000) :
    Calls Tryd.prog 3 #[.agg #[c0, c1, c2, c3, c4, c5, c6]] w fun e w' => e = .returned (.bool true) ∧ Up w w' := by
  obtain ⟨kk, kn, kb, um, kt, ui, ur, he, ⟨x1, x2, x3, rfl⟩, ⟨y1, y2, y3, rfl⟩, ⟨z1, z2, z3, rfl⟩⟩ := hd.shapes
  simp at he
  obtain ⟨rfl, rfl, rfl, rfl, rfl, rfl, rfl⟩ := he
  obtain ⟨W, hW⟩ : ∃ W, W = w.alloc (.cells #[.int .i64 kk, .int .i64 kn, .bool kb, .slice x1 x2 x3, .string kt, .slice y1 y2 y3, .slice z1 z2 z3] 27) := ⟨_, rfl⟩
  have uW : Up w W := by rw [hW]; exact up_alloc _ _
  have bW : W.heap[w.heap.size]? = some (.cells #[.int .i64 kk, .int .i64 kn, .bool kb, .slice x1 x2 x3, .string kt, .slice y1 y2 y3, .slice z1 z2 z3] 27 (0, 0)) := by rw [hW]; exact heap_alloc_new _ _
  have K1 := fun (V : World) (u : Up W V) => copy_all h d _ _ _ _ _ _ _ V ((hd.up uW).up u) (by omega)
  have K2 := fun (V : World) (u : Up W V) (d0 d1 d2 d3 d4 d5 d6 : Value) (hq : DatC V h d [d0, d1, d2, d3, d4, d5, d6]) => write_any V h d d0 d1 d2 d3 d4 d5 d6 (htab.up (uW.tr u)) (by omega) hq
  have K3 := fun (V : World) (u : Up W V) => rwrite_any V h d _ _ _ _ _ _ _ (by omega) ((hd.up uW).up u)
  have K4 := fun (V : World) (u : Up W V) => awake_any V (htab.up (uW.tr u))
  generalize wr h false d = T at *
  obtain ⟨n0, n1, n2, n3, n4, n5, n6⟩ := cells7 bW
  have H1 := hide K1
  have H2 := hide K2
  have H3 := hide K3
  have H4 := hide K4
  have HUW := hide uW
  have HBW := hide bW
  have HW := hide hW
  have HUD : Hid (Up W W.drew) := hide (up_drew W)
  clear K1 K2 K3 K4 uW bW hW hd htab hb
  go_enter Tryd.func3, Tryd.ntmps3
  go_wp2_with fail
  rw [← HW.out]
  go_region_held3 (fun w' => Hid (Up W w') ∧ w'.cell? ⟨w.heap.size, 0, none⟩ = some (.int .i64 kk) ∧ w'.cell? ⟨w.heap.size, 1, none⟩ = some (.int .i64 kn) ∧ w'.cell? ⟨w.heap.size, 2, none⟩ = some (.bool kb) ∧ w'.cell? ⟨w.heap.size, 3, none⟩ = some (.slice x1 x2 x3) ∧ w'.cell? ⟨w.heap.size, 4, none⟩ = some (.string kt) ∧ w'.cell? ⟨w.heap.size, 5, none⟩ = some (.slice y1 y2 y3) ∧ w'.cell? ⟨w.heap.size, 6, none⟩ = some (.slice z1 z2 z3)) (first | (refine ⟨?_, ?_, ?_, ?_, ?_, ?_, ?_, ?_⟩ <;> assumption) | go_keep)
    (first
      | (go_at_call 7; refine (H1.out _ ?hu).mono ?_; (case hu => exact Hid.out (by assumption)); rintro e wa ⟨d0, d1, d2, d3, d4, d5, d6, rfl, qa, ua⟩; have HQ := hide qa.dat; have HUa : Hid (Up W wa) := hide (Up.tr (Hid.out (by assumption)) ua); obtain ⟨n0, n1, n2, n3, n4, n5, n6⟩ := cells7 (Up.old HUa.out HBW.out); clear qa ua)
      | (go_at_call 6; refine (H2.out _ ?hu _ _ _ _ _ _ _ HQ.out).mono ?_; (case hu => exact Hid.out (by assumption)); rintro e wb ⟨rfl, ub⟩; have HUb : Hid (Up W wb) := hide (Up.tr (Hid.out (by assumption)) ub); obtain ⟨n0, n1, n2, n3, n4, n5, n6⟩ := cells7 (Up.old HUb.out HBW.out); clear ub)
      | (go_at_call 8; refine (H3.out _ ?hu).mono ?_; (case hu => exact Hid.out (by assumption)); rintro e wc ⟨rfl, uc⟩; (try (have HQ := hide (HQ.out.up uc))); have HUc : Hid (Up W wc) := hide (Up.tr (Hid.out (by assumption)) uc); obtain ⟨n0, n1, n2, n3, n4, n5, n6⟩ := cells7 (Up.old HUc.out HBW.out); clear uc)
      | (go_at_call 9; refine (H4.out _ ?hu).mono ?_; (case hu => exact Hid.out (by assumption)); rintro e wd ⟨rfl, ud⟩; have HUd : Hid (Up W wd) := hide (Up.tr (Hid.out (by assumption)) ud); obtain ⟨n0, n1, n2, n3, n4, n5, n6⟩ := cells7 (Up.old HUd.out HBW.out); clear ud))
  all_goals (go_wp2; go_ret; exact ⟨rfl, HUW.out.tr HUd.out⟩)

set_option maxHeartbeats 8000000 in
set_option maxRecDepth 100000 in
theorem showDisplays_any (w : World) (h : Nat) (d : Tr h) (c0 c1 c2 c3 c4 c5 c6 : Value) (htab : Tab w) (hd : DatC w h d [c0, c1, c2, c3, c4, c5, c6]) (hb : bk h d ≤ 2000000) :
    Calls Tryd.prog 4 #[.agg #[c0, c1, c2, c3, c4, c5, c6]] w fun e w' => e = .returned (.bool true) ∧ Up w w' := by
  obtain ⟨kk, kn, kb, um, kt, ui, ur, he, ⟨x1, x2, x3, rfl⟩, ⟨y1, y2, y3, rfl⟩, ⟨z1, z2, z3, rfl⟩⟩ := hd.shapes
  simp at he
  obtain ⟨rfl, rfl, rfl, rfl, rfl, rfl, rfl⟩ := he
  obtain ⟨W, hW⟩ : ∃ W, W = w.alloc (.cells #[.int .i64 kk, .int .i64 kn, .bool kb, .slice x1 x2 x3, .string kt, .slice y1 y2 y3, .slice z1 z2 z3] 27) := ⟨_, rfl⟩
  have uW : Up w W := by rw [hW]; exact up_alloc _ _
  have bW : W.heap[w.heap.size]? = some (.cells #[.int .i64 kk, .int .i64 kn, .bool kb, .slice x1 x2 x3, .string kt, .slice y1 y2 y3, .slice z1 z2 z3] 27 (0, 0)) := by rw [hW]; exact heap_alloc_new _ _
  have K1 := fun (V : World) (u : Up W V) => copy_all h d _ _ _ _ _ _ _ V ((hd.up uW).up u) (by omega)
  have K2 := fun (V : World) (u : Up W V) (d0 d1 d2 d3 d4 d5 d6 : Value) (hq : DatC V h d [d0, d1, d2, d3, d4, d5, d6]) => display_any V h d d0 d1 d2 d3 d4 d5 d6 (htab.up (uW.tr u)) (by omega) hq
  have K3 := fun (V : World) (u : Up W V) => rdisplay_any V h d _ _ _ _ _ _ _ (by omega) ((hd.up uW).up u)
  have K4 := fun (V : World) (u : Up W V) => awake_any V (htab.up (uW.tr u))
  generalize wr h true d = T at *
  obtain ⟨n0, n1, n2, n3, n4, n5, n6⟩ := cells7 bW
  have H1 := hide K1
  have H2 := hide K2
  have H3 := hide K3
  have H4 := hide K4
  have HUW := hide uW
  have HBW := hide bW
  have HW := hide hW
  have HUD : Hid (Up W W.drew) := hide (up_drew W)
  clear K1 K2 K3 K4 uW bW hW hd htab hb
  go_enter Tryd.func4, Tryd.ntmps4
  go_wp2_with fail
  rw [← HW.out]
  go_region_held3 (fun w' => Hid (Up W w') ∧ w'.cell? ⟨w.heap.size, 0, none⟩ = some (.int .i64 kk) ∧ w'.cell? ⟨w.heap.size, 1, none⟩ = some (.int .i64 kn) ∧ w'.cell? ⟨w.heap.size, 2, none⟩ = some (.bool kb) ∧ w'.cell? ⟨w.heap.size, 3, none⟩ = some (.slice x1 x2 x3) ∧ w'.cell? ⟨w.heap.size, 4, none⟩ = some (.string kt) ∧ w'.cell? ⟨w.heap.size, 5, none⟩ = some (.slice y1 y2 y3) ∧ w'.cell? ⟨w.heap.size, 6, none⟩ = some (.slice z1 z2 z3)) (first | (refine ⟨?_, ?_, ?_, ?_, ?_, ?_, ?_, ?_⟩ <;> assumption) | go_keep)
    (first
      | (go_at_call 7; refine (H1.out _ ?hu).mono ?_; (case hu => exact Hid.out (by assumption)); rintro e wa ⟨d0, d1, d2, d3, d4, d5, d6, rfl, qa, ua⟩; have HQ := hide qa.dat; have HUa : Hid (Up W wa) := hide (Up.tr (Hid.out (by assumption)) ua); obtain ⟨n0, n1, n2, n3, n4, n5, n6⟩ := cells7 (Up.old HUa.out HBW.out); clear qa ua)
      | (go_at_call 10; refine (H2.out _ ?hu _ _ _ _ _ _ _ HQ.out).mono ?_; (case hu => exact Hid.out (by assumption)); rintro e wb ⟨rfl, ub⟩; have HUb : Hid (Up W wb) := hide (Up.tr (Hid.out (by assumption)) ub); obtain ⟨n0, n1, n2, n3, n4, n5, n6⟩ := cells7 (Up.old HUb.out HBW.out); clear ub)
      | (go_at_call 11; refine (H3.out _ ?hu).mono ?_; (case hu => exact Hid.out (by assumption)); rintro e wc ⟨rfl, uc⟩; (try (have HQ := hide (HQ.out.up uc))); have HUc : Hid (Up W wc) := hide (Up.tr (Hid.out (by assumption)) uc); obtain ⟨n0, n1, n2, n3, n4, n5, n6⟩ := cells7 (Up.old HUc.out HBW.out); clear uc)
      | (go_at_call 9; refine (H4.out _ ?hu).mono ?_; (case hu => exact Hid.out (by assumption)); rintro e wd ⟨rfl, ud⟩; have HUd : Hid (Up W wd) := hide (Up.tr (Hid.out (by assumption)) ud); obtain ⟨n0, n1, n2, n3, n4, n5, n6⟩ := cells7 (Up.old HUd.out HBW.out); clear ud))
  all_goals (go_wp2; go_ret; exact ⟨rfl, HUW.out.tr HUd.out⟩)

end Go.Proofs.YtedhknfgliepeaaDoor
