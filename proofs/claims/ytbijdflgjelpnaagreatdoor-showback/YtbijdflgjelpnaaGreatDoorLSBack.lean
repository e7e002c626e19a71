/-
  What is proved here: tandemlaw06.ShowBack.
-/
import Derived.Test.YtbijdflgjelpnaaGreatDoorUD
import Derived.Test.YtbijdflgjelpnaaGreatDoorUI
import Derived.Test.YtbijdflgjelpnaaGreatDoorUA
import Derived.Test.YtbijdflgjelpnaaGreatDoorWAA
import Derived.Test.YtbijdflgjelpnaaGreatDoorYDD
import Derived.Deep.RegionHeld3
namespace Go.Proofs.YtbijdflgjelpnaaGreatDoor
open Go Go.RowKit

theorem cellUp {w w' : World} (u : Up w w') {p : Addr} {v : Value} (h : w.cell? p = some v) : w'.cell? p = some v := (u.cell (World.block_lt_of_cell? _ _ h)).trans h
def wrF {h : Nat} (d : Tr (h + 1)) : List UInt8 := wr (h + 1) false d
set_option maxHeartbeats 8000000 in
set_option maxRecDepth 100000 in
theorem sback_walk (t : ByteArray) (h : Nat) (J : List (Tr (h + 1))) (w : World) (htab : Tab w)
    (hA : Calls Tryz.prog 5 #[.string t] w fun e w' => Up w w' ∧ ∃ ao cap, e = .returned (.tuple #[.slice ao J.length cap, .int .i64 0, .int .i64 0]) ∧ RowD w' (DatC w' (h + 1)) (.slice ao J.length cap) J)
    (hb : ∀ d ∈ J, bk (h + 1) d ≤ 10000000)
    (hO : ∀ (W : World) (d : Tr (h + 1)), d ∈ J → (wrF d).length ≤ 65536 → Calls Tryz.prog 8 #[.string ⟨(wrF d).toArray⟩, .int .i64 0] W fun e w' => Up W w' ∧ ∃ (k n : Int) (b : Bool) (m1 : Option Addr) (m2 m3 : Nat) (s : ByteArray) (i1 : Option Addr) (i2 i3 : Nat) (r1 : Option Addr) (r2 r3 : Nat), e = .returned (.tuple #[.agg #[.int .i64 k, .int .i64 n, .bool b, .slice m1 m2 m3, .string s, .slice i1 i2 i3, .slice r1 r2 r3], .int .i64 ((wrF d).length : Int), .int .i64 0]) ∧ DatC w' (h + 1) d [.int .i64 k, .int .i64 n, .bool b, .slice m1 m2 m3, .string s, .slice i1 i2 i3, .slice r1 r2 r3]) :
    Calls Tryz.prog 3 #[.string t] w fun e w' => e = .returned (.bool true) ∧ Up w w' := by
  have HA := hide hA
  have HB := hide hb
  have HO := hide hO
  have HT := hide htab
  have HS := hide (same_all (h + 1))
  have HW := hide (fun (W : World) (u : Up w W) => awake_any W (htab.up u))
  have HWR := hide (fun (W : World) (u : Up w W) (d : Tr (h + 1)) (c0 c1 c2 c3 c4 c5 c6 : Value) (hb : bk (h + 1) d ≤ 10000000) (hd : DatC W (h + 1) d [c0, c1, c2, c3, c4, c5, c6]) => show Calls Tryz.prog 7 #[.agg #[c0, c1, c2, c3, c4, c5, c6]] W fun e w' => e = .returned (.string ⟨(wrF d).toArray⟩) ∧ Up W w' from write_any W (h + 1) d c0 c1 c2 c3 c4 c5 c6 (htab.up u) hb hd)
  clear hA hb hO htab
  go_enter Tryz.func3, Tryz.ntmps3
  go_wp2_with (go_at_call 5; refine HA.out.mono ?_; rintro e w1 ⟨u1, ao, cap, rfl, r1⟩; have H1 := hide (And.intro u1 r1); clear u1 r1)
  have hJl : J.length ≤ 9223372036854775807 := by
    obtain ⟨ao', cap', e, h1, h2, -⟩ := H1.out.2
    omega
  go_loopw [6] (fun a6 wq => ∃ k : Nat, k ≤ J.length ∧ a6 = .int .i64 (k : Int) ∧ Up w1 wq) (fun a6 _ => J.length - (intOf a6).toNat)
  case atStart => exact ⟨0, Nat.zero_le _, rfl, Up.refl _⟩
  case round =>
    obtain ⟨k, hk, rfl, hup⟩ := hrel
    by_cases hlt : k < J.length
    · obtain ⟨b, off, rfl, a0, a1, a2, x1, x2, x3, a4, y1, y2, y3, z1, z2, z3, hd, f0, f1, f2, f3, f4, f5, f6⟩ := row_seven H1.out.2 hup hlt
      have K1 := HWR.out wr (H1.out.1.tr hup) J[k] _ _ _ _ _ _ _ (HB.out _ (List.getElem_mem hlt)) hd
      have K2 := fun (W : World) => HO.out W J[k] (List.getElem_mem hlt)
      have hkI : (k : Int) < (J.length : Int) := by omega
      have HUP := hide hup
      obtain ⟨T, hT⟩ : ∃ T, T = wrF J[k] := ⟨_, rfl⟩
      rw [← hT] at K1 K2
      have zT : (⟨T.toArray⟩ : ByteArray).size = T.length := by simp [ByteArray.size]
      generalize hZ : (⟨T.toArray⟩ : ByteArray) = Z at *
      clear hZ
      have HK1 := hide K1
      clear K1 hd hup hT
      by_cases hL : T.length ≤ 65536
      · have hLI : ¬ ((65536 : Int) < (T.length : Int)) := by omega
        have HK2 := hide (fun (W : World) => K2 W hL)
        clear K2
        go_wp2_with (first
          | (go_at_call 7; refine HK1.out.mono ?_; rintro e w3 ⟨rfl, u3⟩; have HU3 := hide u3; clear u3 f0 f1 f2 f3 f4 f5 f6)
          | (go_at_call 8; refine (HK2.out _).mono ?_; rintro e w4 ⟨u4, ck, cn, cb, m1, m2, m3, cs, i1, i2, i3, r1, r2, r3, rfl, hd4⟩; have H4 := hide (And.intro u4 hd4); clear u4 hd4))
        have u4 := up_alloc w4 (.cells #[.int .i64 ck, .int .i64 cn, .bool cb, .slice m1 m2 m3, .string cs, .slice i1 i2 i3, .slice r1 r2 r3] 32)
        have g4 := heap_alloc_new w4 (.cells #[.int .i64 ck, .int .i64 cn, .bool cb, .slice m1 m2 m3, .string cs, .slice i1 i2 i3, .slice r1 r2 r3] 32)
        generalize w4.alloc (.cells #[.int .i64 ck, .int .i64 cn, .bool cb, .slice m1 m2 m3, .string cs, .slice i1 i2 i3, .slice r1 r2 r3] 32) = W4 at *
        have u5 := u4.tr (up_drew W4)
        have UW := ((HUP.out.tr HU3.out).tr H4.out.1).tr u5
        obtain ⟨b2, off2, e2, c0', c1', c2', m1', m2', m3', c4', i1', i2', i3', r1', r2', r3', hd', e0', e1', e2', e3', e4', e5', e6'⟩ := row_seven H1.out.2 UW hlt
        obtain ⟨rfl, rfl⟩ : b = b2 ∧ off = off2 := by simpa using e2
        have K5 := hide (HS.out _ _ _ _ _ _ _ _ _ _ _ _ _ _ _ _ (H4.out.2.up u5) hd')
        obtain ⟨n0, n1, n2, n3, n4, n5, n6⟩ := cells7 (Up.old (up_drew W4) g4)
        have HUW := hide UW
        clear u4 g4 u5 UW hd' e2
        go_region_held3 (fun w' => w'.cell? ⟨w4.heap.size, 0, none⟩ = some (.int .i64 ck) ∧ w'.cell? ⟨w4.heap.size, 1, none⟩ = some (.int .i64 cn) ∧ w'.cell? ⟨w4.heap.size, 2, none⟩ = some (.bool cb) ∧ w'.cell? ⟨w4.heap.size, 3, none⟩ = some (.slice m1 m2 m3) ∧ w'.cell? ⟨w4.heap.size, 4, none⟩ = some (.string cs) ∧ w'.cell? ⟨w4.heap.size, 5, none⟩ = some (.slice i1 i2 i3) ∧ w'.cell? ⟨w4.heap.size, 6, none⟩ = some (.slice r1 r2 r3) ∧ w'.cell? ⟨b, off + k * 7, none⟩ = some (.int .i64 c0') ∧ w'.cell? ⟨b, off + k * 7 + 1, none⟩ = some (.int .i64 c1') ∧ w'.cell? ⟨b, off + k * 7 + 2, none⟩ = some (.bool c2') ∧ w'.cell? ⟨b, off + k * 7 + 3, none⟩ = some (.slice m1' m2' m3') ∧ w'.cell? ⟨b, off + k * 7 + 4, none⟩ = some (.string c4') ∧ w'.cell? ⟨b, off + k * 7 + 5, none⟩ = some (.slice i1' i2' i3') ∧ w'.cell? ⟨b, off + k * 7 + 6, none⟩ = some (.slice r1' r2' r3')) (go_keep)
          (first | (go_at_call 9; refine K5.out.mono ?_; rintro e w6 ⟨rfl, u6⟩; have p0 := cellUp u6 n0; have p1 := cellUp u6 n1; have p2 := cellUp u6 n2; have p3 := cellUp u6 n3; have p4 := cellUp u6 n4; have p5 := cellUp u6 n5; have p6 := cellUp u6 n6; have q0 := cellUp u6 e0'; have q1 := cellUp u6 e1'; have q2 := cellUp u6 e2'; have q3 := cellUp u6 e3'; have q4 := cellUp u6 e4'; have q5 := cellUp u6 e5'; have q6 := cellUp u6 e6'; have HU6 := hide u6; clear u6))
        all_goals
          go_wp2_with fail
          refine ⟨⟨k + 1, by omega, by go_num, HUW.out.tr HU6.out⟩, ?_⟩
          simp [intOf]
          omega
      · have hLI : (65536 : Int) < (T.length : Int) := by omega
        clear K2
        go_wp2_with (go_at_call 7; refine HK1.out.mono ?_; rintro e w3 ⟨rfl, u3⟩; have HU3 := hide u3; clear u3)
        refine ⟨⟨k + 1, by omega, by go_num, HUP.out.tr HU3.out⟩, ?_⟩
        simp [intOf]
        omega
    · have hkI : ¬ ((k : Int) < (J.length : Int)) := by omega
      have HUP := hide (H1.out.1.tr hup)
      clear hup
      go_wp2_with (go_at_call 6; refine (HW.out _ HUP.out).mono ?_; rintro e w5 ⟨rfl, u5⟩)
      go_ret
      exact ⟨rfl, HUP.out.tr u5⟩

set_option maxHeartbeats 4000000 in
set_option maxRecDepth 100000 in
theorem sback_bad (t : ByteArray) (x e0 : Int) (w : World) (htab : Tab w) (he : ¬ (e0 = 0)) (hA : Calls Tryz.prog 5 #[.string t] w fun e w' => Up w w' ∧ e = .returned (.tuple #[.slice none 0 0, .int .i64 x, .int .i64 e0])) :
    Calls Tryz.prog 3 #[.string t] w fun e w' => e = .returned (.bool true) ∧ Up w w' := by
  have HA := hide hA
  have HK2 := hide (fun (W : World) (u : Up w W) => awake_any W (htab.up u))
  clear hA htab
  go_enter Tryz.func3, Tryz.ntmps3
  go_wp2_with (first
    | (go_at_call 5; refine HA.out.mono ?_; rintro e w1 ⟨u1, rfl⟩; have H1 := hide u1; clear u1)
    | (go_at_call 6; refine (HK2.out _ H1.out).mono ?_; rintro e w5 ⟨rfl, u5⟩))
  go_ret
  exact ⟨rfl, H1.out.tr u5⟩
theorem sum_mem {α : Type} {m : α → Nat} : ∀ {l : List α} {x : α}, x ∈ l → m x ≤ (l.map m).sum
  | a :: l, x, h => by
    rw [List.map_cons, List.sum_cons]
    rcases List.mem_cons.1 h with rfl | h
    · omega
    · have := sum_mem (m := m) h
      omega
theorem all_long3 (t : ByteArray) (w : World) (ht : 65536 < t.size) : Calls Tryz.prog 5 #[.string t] w fun e w' => Up w w' ∧ e = .returned (.tuple #[.slice none 0 0, .int .i64 0, .int .i64 2]) := by
  have hI : (65536 : Int) < (t.size : Int) := by omega
  go_enter Tryz.func5, Tryz.ntmps5
  go_wp2_with fail
  refine bodyPost_ret (by simp [results, Tryz.results5, go_sem]; rfl) rfl ?_
  exact ⟨Up.refl _, rfl⟩
theorem one_back {h : Nat} (d : Tr (h + 1)) (hd : Rb h d) : ∃ G, ∀ F, G ≤ F → (rdM (wrF d) F h).dt ((rdM (wrF d) F h).nx 0 0) = .inr (0, (wrF d).length, d, (wrF d).length) := by
  obtain ⟨G, hG⟩ := w2r h d hd (wrF d) 0 [] (by simp [wrF]) (.inl rfl)
  refine ⟨G, fun F hF => ?_⟩
  have := hG F hF
  rw [Nat.zero_add] at this
  exact this
theorem showBack_any (t : ByteArray) (w : World) (htab : Tab w) : Calls Tryz.prog 3 #[.string t] w fun e w' => e = .returned (.bool true) ∧ Up w w' := by
  by_cases hl : t.size ≤ 65536
  · have hlen : t.data.toList.length = t.size := bytes_len t
    have h := all_fuel t (3 * t.size + 4) (t.size + 1) w hl (Nat.le_refl _) (Nat.le_refl _)
    match hR : allR (rdM t.data.toList (3 * t.size + 4) 100) (t.size + 1) 0 [] with
    | .inl q =>
      have hq : q.er ≠ 0 := allR_er (by rw [hlen]; exact Nat.le_refl _) _ _ _ q (Nat.zero_le _) (by rw [hlen]; exact Nat.le_refl _) hR
      exact sback_bad t (q.x : Int) (q.er : Int) w htab (by omega) (all_bad hR h)
    | .inr J =>
      have hbk := allR_bk _ _ _ (Nat.zero_le _) hR
      have hrb := allR_rb _ _ _ (Nat.zero_le _) hR
      refine sback_walk t 100 J w htab (all_good hR h) (fun d hd => Nat.le_trans (Nat.le_trans (sum_mem (m := bk (100 + 1)) hd) (Nat.le_trans (Nat.le_add_right _ _) hbk)) (by rw [hlen]; omega)) (fun W d hd hL => ?_)
      obtain ⟨G, hG⟩ := one_back d (hrb d hd)
      have zT : (⟨(wrF d).toArray⟩ : ByteArray).size = (wrF d).length := by simp [ByteArray.size]
      exact one_good2 (hG (G + (3 * (wrF d).length + 4)) (by omega)) (one_fuel ⟨(wrF d).toArray⟩ (G + (3 * (wrF d).length + 4)) 0 W (by rw [zT]; exact hL) (Nat.zero_le _) (by rw [zT]; omega))
  · exact sback_bad t 0 2 w htab (by decide) (all_long3 t w (by omega))

theorem showBack_top (t : ByteArray) (w : World) (_h : 0 ≤ t.size) (htab : Tab w) : Calls Tryz.prog 3 #[.string t] w fun e w' => e = .returned (.bool true) ∧ Up w w' := showBack_any t w htab

end Go.Proofs.YtbijdflgjelpnaaGreatDoor
