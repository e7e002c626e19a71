/-
  What is proved here: tandemlaw00.Copy: a datum in new memory.
-/
import Derived.Test.YtedhknfgliepeaaDoorSCopyA
namespace Go.Proofs.YtedhknfgliepeaaDoor
open Go Go.RowKit

theorem Own.vq {k : IntKind} {E : TypeId} {w : World} {base : Nat} {v : Value} {n : Nat} {f : Nat → Nat} (h : Own k E w base v n f) : VQ (fun b => base ≤ b) v n := by
  rcases h with ⟨rfl, rfl⟩ | ⟨b, cap, rfl, h1, h2, h3⟩
  · exact .inl rfl
  · exact .inr ⟨_, _, _, rfl, h1⟩

/-- Blocks from B on stand. -/
def Kb (B : Nat) (a c : World) : Prop := a.heap.size ≤ c.heap.size ∧ ∀ k, k < a.heap.size → B ≤ k → c.heap[k]? = a.heap[k]?
theorem Kb.trans {B : Nat} {a b c : World} (h : Kb B a b) (k : Kb B b c) : Kb B a c := ⟨Nat.le_trans h.1 k.1, fun i hi hB => (k.2 i (Nat.lt_of_lt_of_le hi h.1) hB).trans (h.2 i hi hB)⟩
theorem Kb.of_up {B : Nat} {a b : World} (h : Up a b) : Kb B a b := ⟨h.size, fun i hi _ => h.block i hi⟩
theorem Kb.set {B g : Nat} (a : World) (hg : g < B) (i : Nat) (u : Value) : Kb B a (a.setCell ⟨g, i, none⟩ u) := ⟨by simp [World.setCell], fun k _ hB => heap_setCell_other _ _ _ _ (show k ≠ g from by omega)⟩
theorem up_set {w a : World} {g : Nat} (h : Up w a) (hg : w.heap.size ≤ g) (i : Nat) (u : Value) : Up w (a.setCell ⟨g, i, none⟩ u) := Below.setCell (p := ⟨g, i, none⟩) h hg _

theorem sto7 {w1 : World} {g B : Nat} {c0 c1 c2 c3 c4 c5 c6 : Value} {E : TypeId} (h : w1.heap[g]? = some (.cells #[c0, c1, c2, c3, c4, c5, c6] E (0, 0))) (hg : g < B) (v0 v1 v2 v3 v4 v5 v6 : Value) :
    ((((((((w1.setCell ⟨g, 0, none⟩ v0).setCell ⟨g, 1, none⟩ v1).setCell ⟨g, 2, none⟩ v2).setCell ⟨g, 3, none⟩ v3).setCell ⟨g, 4, none⟩ v4).setCell ⟨g, 5, none⟩ v5).setCell ⟨g, 6, none⟩ v6)).heap[g]? = some (.cells #[v0, v1, v2, v3, v4, v5, v6] E (0, 0)) ∧ Kb B w1 ((((((((w1.setCell ⟨g, 0, none⟩ v0).setCell ⟨g, 1, none⟩ v1).setCell ⟨g, 2, none⟩ v2).setCell ⟨g, 3, none⟩ v3).setCell ⟨g, 4, none⟩ v4).setCell ⟨g, 5, none⟩ v5).setCell ⟨g, 6, none⟩ v6)) ∧ ∀ w, Up w w1 → w.heap.size ≤ g → Up w ((((((((w1.setCell ⟨g, 0, none⟩ v0).setCell ⟨g, 1, none⟩ v1).setCell ⟨g, 2, none⟩ v2).setCell ⟨g, 3, none⟩ v3).setCell ⟨g, 4, none⟩ v4).setCell ⟨g, 5, none⟩ v5).setCell ⟨g, 6, none⟩ v6)) := by
  have s0 : (#[c0, c1, c2, c3, c4, c5, c6] : Array Value).setIfInBounds 0 v0 = #[v0, c1, c2, c3, c4, c5, c6] := rfl
  have s1 : (#[v0, c1, c2, c3, c4, c5, c6] : Array Value).setIfInBounds 1 v1 = #[v0, v1, c2, c3, c4, c5, c6] := rfl
  have s2 : (#[v0, v1, c2, c3, c4, c5, c6] : Array Value).setIfInBounds 2 v2 = #[v0, v1, v2, c3, c4, c5, c6] := rfl
  have s3 : (#[v0, v1, v2, c3, c4, c5, c6] : Array Value).setIfInBounds 3 v3 = #[v0, v1, v2, v3, c4, c5, c6] := rfl
  have s4 : (#[v0, v1, v2, v3, c4, c5, c6] : Array Value).setIfInBounds 4 v4 = #[v0, v1, v2, v3, v4, c5, c6] := rfl
  have s5 : (#[v0, v1, v2, v3, v4, c5, c6] : Array Value).setIfInBounds 5 v5 = #[v0, v1, v2, v3, v4, v5, c6] := rfl
  have s6 : (#[v0, v1, v2, v3, v4, v5, c6] : Array Value).setIfInBounds 6 v6 = #[v0, v1, v2, v3, v4, v5, v6] := rfl
  have h1 := heap_setCell_same w1 g 0 _ E v0 h
  rw [s0] at h1
  have k1 := Kb.set (B := B) w1 hg 0 v0
  have u1 : ∀ w, Up w w1 → w.heap.size ≤ g → Up w (w1.setCell ⟨g, 0, none⟩ v0) := fun w hu hw => up_set (hu) hw 0 v0
  generalize w1.setCell ⟨g, 0, none⟩ v0 = wa at *
  have h2 := heap_setCell_same wa g 1 _ E v1 h1
  rw [s1] at h2
  have k2 := Kb.set (B := B) wa hg 1 v1
  have u2 : ∀ w, Up w w1 → w.heap.size ≤ g → Up w (wa.setCell ⟨g, 1, none⟩ v1) := fun w hu hw => up_set (u1 w hu hw) hw 1 v1
  generalize wa.setCell ⟨g, 1, none⟩ v1 = wb at *
  have h3 := heap_setCell_same wb g 2 _ E v2 h2
  rw [s2] at h3
  have k3 := Kb.set (B := B) wb hg 2 v2
  have u3 : ∀ w, Up w w1 → w.heap.size ≤ g → Up w (wb.setCell ⟨g, 2, none⟩ v2) := fun w hu hw => up_set (u2 w hu hw) hw 2 v2
  generalize wb.setCell ⟨g, 2, none⟩ v2 = wc at *
  have h4 := heap_setCell_same wc g 3 _ E v3 h3
  rw [s3] at h4
  have k4 := Kb.set (B := B) wc hg 3 v3
  have u4 : ∀ w, Up w w1 → w.heap.size ≤ g → Up w (wc.setCell ⟨g, 3, none⟩ v3) := fun w hu hw => up_set (u3 w hu hw) hw 3 v3
  generalize wc.setCell ⟨g, 3, none⟩ v3 = wd at *
  have h5 := heap_setCell_same wd g 4 _ E v4 h4
  rw [s4] at h5
  have k5 := Kb.set (B := B) wd hg 4 v4
  have u5 : ∀ w, Up w w1 → w.heap.size ≤ g → Up w (wd.setCell ⟨g, 4, none⟩ v4) := fun w hu hw => up_set (u4 w hu hw) hw 4 v4
  generalize wd.setCell ⟨g, 4, none⟩ v4 = we at *
  have h6 := heap_setCell_same we g 5 _ E v5 h5
  rw [s5] at h6
  have k6 := Kb.set (B := B) we hg 5 v5
  have u6 : ∀ w, Up w w1 → w.heap.size ≤ g → Up w (we.setCell ⟨g, 5, none⟩ v5) := fun w hu hw => up_set (u5 w hu hw) hw 5 v5
  generalize we.setCell ⟨g, 5, none⟩ v5 = wf at *
  have h7 := heap_setCell_same wf g 6 _ E v6 h6
  rw [s6] at h7
  have k7 := Kb.set (B := B) wf hg 6 v6
  have u7 : ∀ w, Up w w1 → w.heap.size ≤ g → Up w (wf.setCell ⟨g, 6, none⟩ v6) := fun w hu hw => up_set (u6 w hu hw) hw 6 v6
  exact ⟨h7, (((((k1.trans k2).trans k3).trans k4).trans k5).trans k6).trans k7, u7⟩

set_option maxHeartbeats 4000000 in
set_option maxRecDepth 100000 in
theorem copy_of {h : Nat} (hC : CopyAllOK h) : CopyOK (h + 1) := by
  rintro ⟨k, n, b, L, t, I, R⟩ c0 c1 c2 c3 c4 c5 c6 w hd hb
  obtain ⟨um, ui, ur, e, hn, hM, hL, hI, hR⟩ := hd
  simp at e
  obtain ⟨rfl, rfl, rfl, rfl, rfl, rfl, rfl⟩ := e
  obtain ⟨aom, capm, rfl, hm1, hm2, hm0, hmr⟩ := id hM
  obtain ⟨aoi, capi, rfl⟩ := hI.shape
  obtain ⟨aor, capr, rfl⟩ := hR.shape
  have hbk : L.length ≤ 10000000 ∧ (I.map (bk h)).sum ≤ 10000000 ∧ (R.map (bk h)).sum ≤ 10000000 := by
    simp only [bk] at hb
    omega
  obtain ⟨W, hW⟩ : ∃ W, W = (w.alloc (.cells #[.int .i64 k, .int .i64 n, .bool b, .slice aom L.length capm, .string t, .slice aoi I.length capi, .slice aor R.length capr] 27)).alloc (.cells #[.int .i64 0, .int .i64 0, .bool false, .slice none 0 0, .string ⟨#[]⟩, .slice none 0 0, .slice none 0 0] 27) := ⟨_, rfl⟩
  have u0 : Up w W := by rw [hW]; exact (up_alloc w _).tr (up_alloc _ _)
  have zW : W.heap.size = w.heap.size + 2 := by rw [hW, World.size_alloc, World.size_alloc]
  have b0 : W.heap[w.heap.size]? = some (.cells #[.int .i64 k, .int .i64 n, .bool b, .slice aom L.length capm, .string t, .slice aoi I.length capi, .slice aor R.length capr] 27 (0, 0)) := by
    rw [hW]
    exact (heap_alloc_old _ _ (r := w.heap.size) (by simp)).trans (heap_alloc_new w _)
  have bZ : W.heap[w.heap.size + 1]? = some (.cells #[.int .i64 0, .int .i64 0, .bool false, .slice none 0 0, .string ⟨#[]⟩, .slice none 0 0, .slice none 0 0] 27 (0, 0)) := by
    rw [hW]
    have := heap_alloc_new (w.alloc (.cells #[.int .i64 k, .int .i64 n, .bool b, .slice aom L.length capm, .string t, .slice aoi I.length capi, .slice aor R.length capr] 27)) (.cells #[.int .i64 0, .int .i64 0, .bool false, .slice none 0 0, .string ⟨#[]⟩, .slice none 0 0, .slice none 0 0] 27)
    rw [World.size_alloc] at this
    exact this
  have KM := copy_any aom L.length capm (fun i => L.getD i 0) W (hmr.below u0 (Nat.le_refl _)) hm0 (by omega)
  have KI := fun (W1 : World) (u : Up w W1) => hC I (.slice aoi I.length capi) W1 (hI.upD u) hbk.2.1
  have KR := fun (W1 : World) (u : Up w W1) => hC R (.slice aor R.length capr) W1 (hR.upD u) hbk.2.2
  obtain ⟨n0, n1, n2, n3, n4, n5, n6⟩ := cells7 b0
  have HM := hide KM
  have HI := hide KI
  have HR := hide KR
  have HW := hide hW
  have HZ := hide zW
  have HU0 := hide u0
  have HB0 := hide b0
  have HBZ := hide bZ
  have HN := hide (And.intro hn hL)
  clear KM KI KR b0 bZ u0 zW hW hM hI hR hmr hm0 hm1 hm2 hbk hb hC hn hL
  go_enter Tryd.func7, Tryd.ntmps7
  go_wp2_with fail
  rw [← HW.out]
  go_wp2_with (go_at_call 14; refine HM.out.mono ?_; rintro e w2 ⟨v2, rfl, o2, h2⟩; have o2' := o2; obtain ⟨ao2, cap2, rfl⟩ : ∃ ao cap, v2 = .slice ao L.length cap := (by obtain ⟨ao, cap, e, _⟩ := o2'.sl; exact ⟨ao, cap, e⟩); clear o2'; have b2 := Up.old h2 HB0.out; have z2 := Up.old h2 HBZ.out; obtain ⟨m0, m1, m2, m3, m4, m5, m6⟩ := cells7 b2; have f3 := frozen_of_row _ _ 3 _ _ b2; have HB2 := hide b2; have HZ2 := hide z2; have HO2 := hide o2; have HH2 := hide h2; clear b2 z2 o2 h2 n0 n1 n2 n3 n4 n5 n6)
  have h2u : Up w w2 := HU0.out.tr HH2.out
  have zz := HZ.out
  have U3 : Up w (w2.setCell ⟨w.heap.size, 3, none⟩ (.slice ao2 L.length cap2)) := up_set h2u (Nat.le_refl _) 3 _
  have b3 := heap_setCell_same w2 w.heap.size 3 _ _ (.slice ao2 L.length cap2) HB2.out
  have z3 : (w2.setCell ⟨w.heap.size, 3, none⟩ (.slice ao2 L.length cap2)).heap[w.heap.size + 1]? = _ := (heap_setCell_other _ _ _ _ (show w.heap.size + 1 ≠ w.heap.size from by omega)).trans HZ2.out
  have k3 := Kb.set (B := w.heap.size + 2) w2 (g := w.heap.size) (by omega) 3 (.slice ao2 L.length cap2)
  have l3 : w.heap.size + 2 ≤ (w2.setCell ⟨w.heap.size, 3, none⟩ (.slice ao2 L.length cap2)).heap.size := Nat.le_trans (by rw [← zz]; exact HH2.out.size) k3.1
  clear m0 m1 m2 m3 m4 m5 m6 f3
  generalize w2.setCell ⟨w.heap.size, 3, none⟩ (.slice ao2 L.length cap2) = W3 at *
  refine (HI.out W3 U3).mono ?_
  rintro e w4 ⟨vi, rfl, r4, q4, u4⟩
  obtain ⟨ao4, cap4, rfl⟩ := r4.shape
  have b4 := Up.old u4 b3
  have z4 := Up.old u4 z3
  obtain ⟨m0, m1, m2, m3, m4, m5, m6⟩ := cells7 b4
  have f5 := frozen_of_row _ _ 5 _ _ b4
  have H3 := hide (And.intro U3 (And.intro k3 l3))
  have H4 := hide (And.intro r4 (And.intro q4 u4))
  have HB4 := hide (And.intro b4 z4)
  clear b3 z3 k3 l3 U3 h2u r4 q4 u4 b4 z4 zz
  go_wp2_with fail
  have U5 : Up w (w4.setCell ⟨w.heap.size, 5, none⟩ (.slice ao4 I.length cap4)) := up_set (H3.out.1.tr H4.out.2.2) (Nat.le_refl _) 5 _
  have b5 := heap_setCell_same w4 w.heap.size 5 _ _ (.slice ao4 I.length cap4) HB4.out.1
  have z5 : (w4.setCell ⟨w.heap.size, 5, none⟩ (.slice ao4 I.length cap4)).heap[w.heap.size + 1]? = _ := (heap_setCell_other _ _ _ _ (show w.heap.size + 1 ≠ w.heap.size from by omega)).trans HB4.out.2
  have k5 := Kb.set (B := w.heap.size + 2) w4 (g := w.heap.size) (by omega) 5 (.slice ao4 I.length cap4)
  have l5 : w.heap.size + 2 ≤ (w4.setCell ⟨w.heap.size, 5, none⟩ (.slice ao4 I.length cap4)).heap.size := Nat.le_trans (Nat.le_trans H3.out.2.2 H4.out.2.2.size) k5.1
  clear m0 m1 m2 m3 m4 m5 m6 f5
  generalize w4.setCell ⟨w.heap.size, 5, none⟩ (.slice ao4 I.length cap4) = W5 at *
  refine (HR.out W5 U5).mono ?_
  rintro e w6 ⟨vr, rfl, t6, p6, u6⟩
  obtain ⟨ao6, cap6, rfl⟩ := t6.shape
  have b6 := Up.old u6 b5
  have z6 := Up.old u6 z5
  have b7 := heap_setCell_same w6 w.heap.size 6 _ _ (.slice ao6 R.length cap6) b6
  have z7 : (w6.setCell ⟨w.heap.size, 6, none⟩ (.slice ao6 R.length cap6)).heap[w.heap.size + 1]? = _ := (heap_setCell_other _ _ _ _ (show w.heap.size + 1 ≠ w.heap.size from by omega)).trans z6
  have U7 : Up w (w6.setCell ⟨w.heap.size, 6, none⟩ (.slice ao6 R.length cap6)) := up_set (U5.tr u6) (Nat.le_refl _) 6 _
  have k7 := Kb.set (B := w.heap.size + 2) w6 (g := w.heap.size) (by omega) 6 (.slice ao6 R.length cap6)
  obtain ⟨m0, m1, m2, m3, m4, m5, m6⟩ := cells7 b6
  have f6 := frozen_of_row _ _ 6 _ _ b6
  obtain ⟨q0, q1, q2, q3, q4, q5, q6⟩ := cells7 z7
  have r0 := frozen_of_row _ _ 0 _ _ z7
  have r1 := frozen_of_row _ _ 1 _ _ z7
  have r2 := frozen_of_row _ _ 2 _ _ z7
  have r3 := frozen_of_row _ _ 3 _ _ z7
  have r4 := frozen_of_row _ _ 4 _ _ z7
  have r5 := frozen_of_row _ _ 5 _ _ z7
  have r6' := frozen_of_row _ _ 6 _ _ z7
  have H5 := hide (And.intro U5 (And.intro k5 l5))
  have H6 := hide (And.intro t6 (And.intro p6 u6))
  have H7 := hide (And.intro U7 k7)
  have HB7 := hide (And.intro b7 z7)
  clear b5 z5 k5 l5 U5 t6 p6 u6 b6 z6 b7 z7 U7 k7
  go_wp2_with fail
  clear m0 m1 m2 m3 m4 m5 m6 f6 q0 q1 q2 q3 q4 q5 q6 r0 r1 r2 r3 r4 r5 r6'
  generalize w6.setCell ⟨w.heap.size, 6, none⟩ (.slice ao6 R.length cap6) = W7 at *
  obtain ⟨bf, kf, uf⟩ := sto7 (B := w.heap.size + 2) HB7.out.2 (by omega) (.int .i64 k) (.int .i64 n) (.bool b) (.slice ao2 L.length cap2) (.string t) (.slice ao4 I.length cap4) (.slice ao6 R.length cap6)
  have uF := uf w H7.out.1 (by omega)
  generalize (((((((W7.setCell ⟨(w.heap.size + 1), 0, none⟩ (.int .i64 k)).setCell ⟨(w.heap.size + 1), 1, none⟩ (.int .i64 n)).setCell ⟨(w.heap.size + 1), 2, none⟩ (.bool b)).setCell ⟨(w.heap.size + 1), 3, none⟩ (.slice ao2 L.length cap2)).setCell ⟨(w.heap.size + 1), 4, none⟩ (.string t)).setCell ⟨(w.heap.size + 1), 5, none⟩ (.slice ao4 I.length cap4)).setCell ⟨(w.heap.size + 1), 6, none⟩ (.slice ao6 R.length cap6)) = wf at *
  obtain ⟨d0, d1, d2, d3, d4, d5, d6⟩ := cells7 bf
  have zz := HZ.out
  have K7 := H7.out.2.trans kf
  have K5 := (H5.out.2.1.trans (Kb.of_up H6.out.2.2)).trans K7
  have K3 := (H3.out.2.1.trans (Kb.of_up H4.out.2.2)).trans K5
  have l3 := H3.out.2.2
  have l5 := H5.out.2.2
  refine bodyPost_ret (by simp [results, Tryd.results7, go_sem, d0, d1, d2, d3, d4, d5, d6]; rfl) rfl ?_
  refine ⟨_, _, _, _, _, _, _, rfl, ⟨.slice ao2 L.length cap2, .slice ao4 I.length cap4, .slice ao6 R.length cap6, rfl, HN.out.1, ?_, HN.out.2, ?_, ?_, ?_, ?_, ?_⟩, uF⟩
  · exact (HO2.out.sl).blk (Q := fun x => w.heap.size + 2 ≤ x) (HO2.out.vq.mono (fun x hx => by omega)) (fun x hx hq => K3.2 x hx hq)
  · exact H4.out.1.blk (Q := fun x => w.heap.size + 2 ≤ x) (H4.out.2.1.mono (fun x hx => by omega)) (fun x hx hq => K5.2 x hx hq) (fun a cs hd => DatQ.keep (fun x hx hq => K5.2 x hx (by omega)) (fun x _ hq => by omega) hd)
  · exact H6.out.1.blk (Q := fun x => w.heap.size + 2 ≤ x) (H6.out.2.1.mono (fun x hx => by omega)) (fun x hx hq => K7.2 x hx hq) (fun a cs hd => DatQ.keep (fun x hx hq => K7.2 x hx (by omega)) (fun x _ hq => by omega) hd)
  · exact HO2.out.vq.mono (fun x hx => by omega)
  · exact H4.out.2.1.mono (fun x hx => by omega)
  · exact H6.out.2.1.mono (fun x hx => by omega)

theorem copy_all : (h : Nat) → CopyOK h
  | 0 => fun d => nomatch d
  | h + 1 => copy_of (copyAll_of (copy_all h))
theorem copyAll_all (h : Nat) : CopyAllOK h := copyAll_of (copy_all h)

end Go.Proofs.YtedhknfgliepeaaDoor
