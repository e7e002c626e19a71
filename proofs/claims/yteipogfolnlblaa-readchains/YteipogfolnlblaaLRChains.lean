/-
  What is proved here: tandemlaw05.ReadChains.
-/
import Derived.Test.YteipogfolnlblaaUDA
import Derived.Test.YteipogfolnlblaaUI
import Derived.Deep.RegionHeld3
namespace Go.Proofs.Yteipogfolnlblaa
open Go Go.RowKit

theorem cellUp {w w' : World} (u : Up w w') {p : Addr} {v : Value} (h : w.cell? p = some v) : w'.cell? p = some v := (u.cell (World.block_lt_of_cell? _ _ h)).trans h

set_option maxHeartbeats 8000000 in
set_option maxRecDepth 100000 in
theorem chains_walk (t : ByteArray) (h g0 : Nat) (r : RM h) (J : List (Tr (h + 1))) (w : World) (ht : t.size ≤ 65536) (hJ : allR r g0 0 [] = .inr J)
    (hA : Calls Try.prog 10 #[.string t] w fun e w' => Up w w' ∧ ∃ ao cap, e = .returned (.tuple #[.slice ao J.length cap, .int .i64 0, .int .i64 0]) ∧ RowD w' (DatC w' (h + 1)) (.slice ao J.length cap) J)
    (hO : ∀ (W : World) (a x y : Nat) (tr : Tr (h + 1)) (a' : Nat), a ≤ t.size → r.dt (r.nx 0 a) = .inr (x, y, tr, a') → Calls Try.prog 14 #[.string t, .int .i64 (a : Int)] W fun e w' => Up W w' ∧ ∃ (k n : Int) (b : Bool) (m1 : Option Addr) (m2 m3 : Nat) (s : ByteArray) (i1 : Option Addr) (i2 i3 : Nat) (r1 : Option Addr) (r2 r3 : Nat), e = .returned (.tuple #[.agg #[.int .i64 k, .int .i64 n, .bool b, .slice m1 m2 m3, .string s, .slice i1 i2 i3, .slice r1 r2 r3], .int .i64 (y : Int), .int .i64 0]) ∧ DatC w' (h + 1) tr [.int .i64 k, .int .i64 n, .bool b, .slice m1 m2 m3, .string s, .slice i1 i2 i3, .slice r1 r2 r3])
    (hE : ∀ (W : World) (a : Nat), a ≤ t.size → (r.nx 0 a).k = 0 → Calls Try.prog 14 #[.string t, .int .i64 (a : Int)] W fun e w' => Up W w' ∧ e = .returned (.tuple #[.agg #[.int .i64 0, .int .i64 0, .bool false, .slice none 0 0, .string ⟨#[]⟩, .slice none 0 0, .slice none 0 0], .int .i64 (t.size : Int), .int .i64 10]))
    (hlt : ∀ a x y tr a', a ≤ t.size → r.dt (r.nx 0 a) = .inr (x, y, tr, a') → a < a' ∧ a' ≤ t.size ∧ y = a') :
    Calls Try.prog 5 #[.string t] w fun e w' => e = .returned (.bool true) ∧ Up w w' := by
  have HA := hide hA
  have HO := hide hO
  have HE := hide hE
  have HL := hide hlt
  have HJ := hide hJ
  have hS := same_all (h + 1)
  have HS := hide hS
  have htI : (t.size : Int) ≤ 65536 := by omega
  clear hA hO hE hlt hJ hS
  go_enter Try.func5, Try.ntmps5
  go_wp2_with (go_at_call 10; refine HA.out.mono ?_; rintro e w1 ⟨u1, ao, cap, rfl, r1⟩; have H1 := hide (And.intro u1 r1); clear u1 r1)
  have hJl : J.length ≤ 9223372036854775807 := by
    obtain ⟨ao', cap', e, h1, h2, -⟩ := H1.out.2
    omega
  go_loopw [6, 7] (fun a6 a7 wr => ∃ k a g : Nat, k ≤ J.length ∧ a7 = .int .i64 (k : Int) ∧ a6 = .int .i64 (a : Int) ∧ a ≤ t.size ∧ allR r g a (J.take k) = .inr J ∧ Up w1 wr) (fun _ a7 _ => J.length - (intOf a7).toNat)
  case atStart => exact ⟨0, 0, g0, Nat.zero_le _, rfl, rfl, Nat.zero_le _, HJ.out, Up.refl _⟩
  case round =>
    obtain ⟨k, a, g, hk, rfl, rfl, ha, hg, hup⟩ := hrel
    by_cases hlt : k < J.length
    · obtain ⟨x, y, a', g', hr, hg'⟩ := allR_more hg hlt
      obtain ⟨-, b, off, rfl, -⟩ := H1.out.2.get hlt
      have hl := HL.out a x y _ a' ha hr
      obtain ⟨hl1, hl2, rfl⟩ := hl
      have K1 := HO.out wr a x y _ y ha hr
      have HK1 := hide K1
      have HG := hide hg'
      have HUP := hide hup
      have hkI : (k : Int) < (J.length : Int) := by omega
      have d1 : decide ((y : Int) ≤ (a : Int)) = false := by simp; omega
      have d2 : decide ((t.size : Int) < (y : Int)) = false := by simp; omega
      have d3 : decide (y ≤ a) = false := by simp; omega
      have d4 : decide (t.size < y) = false := by simp; omega
      clear K1 hg hg' hr hup
      go_wp2_with (go_at_call 14; refine HK1.out.mono ?_; rintro e w3 ⟨u3, ck, cn, cb, m1, m2, m3, cs, i1, i2, i3, r1, r2, r3, rfl, hd3⟩; have H3 := hide (And.intro u3 hd3); clear u3 hd3)
      have u4 := up_alloc w3 (.cells #[.int .i64 ck, .int .i64 cn, .bool cb, .slice m1 m2 m3, .string cs, .slice i1 i2 i3, .slice r1 r2 r3] 35)
      have g4 := heap_alloc_new w3 (.cells #[.int .i64 ck, .int .i64 cn, .bool cb, .slice m1 m2 m3, .string cs, .slice i1 i2 i3, .slice r1 r2 r3] 35)
      generalize w3.alloc (.cells #[.int .i64 ck, .int .i64 cn, .bool cb, .slice m1 m2 m3, .string cs, .slice i1 i2 i3, .slice r1 r2 r3] 35) = W4 at *
      have u5 := u4.tr (up_drew W4)
      have UW := (HUP.out.tr H3.out.1).tr u5
      obtain ⟨b2, off2, e2, c0', c1', c2', m1', m2', m3', c4', i1', i2', i3', r1', r2', r3', hd', e0', e1', e2', e3', e4', e5', e6'⟩ := row_seven H1.out.2 UW hlt
      obtain ⟨rfl, rfl⟩ : b = b2 ∧ off = off2 := by simpa using e2
      have K5 := hide (HS.out _ _ _ _ _ _ _ _ _ _ _ _ _ _ _ _ (H3.out.2.up u5) hd')
      obtain ⟨n0, n1, n2, n3, n4, n5, n6⟩ := cells7 (Up.old (up_drew W4) g4)
      have HUW := hide UW
      clear u4 g4 u5 UW hd' e2
      go_region_held3 (fun w' => w'.cell? ⟨w3.heap.size, 0, none⟩ = some (.int .i64 ck) ∧ w'.cell? ⟨w3.heap.size, 1, none⟩ = some (.int .i64 cn) ∧ w'.cell? ⟨w3.heap.size, 2, none⟩ = some (.bool cb) ∧ w'.cell? ⟨w3.heap.size, 3, none⟩ = some (.slice m1 m2 m3) ∧ w'.cell? ⟨w3.heap.size, 4, none⟩ = some (.string cs) ∧ w'.cell? ⟨w3.heap.size, 5, none⟩ = some (.slice i1 i2 i3) ∧ w'.cell? ⟨w3.heap.size, 6, none⟩ = some (.slice r1 r2 r3) ∧ w'.cell? ⟨b, off + k * 7, none⟩ = some (.int .i64 c0') ∧ w'.cell? ⟨b, off + k * 7 + 1, none⟩ = some (.int .i64 c1') ∧ w'.cell? ⟨b, off + k * 7 + 2, none⟩ = some (.bool c2') ∧ w'.cell? ⟨b, off + k * 7 + 3, none⟩ = some (.slice m1' m2' m3') ∧ w'.cell? ⟨b, off + k * 7 + 4, none⟩ = some (.string c4') ∧ w'.cell? ⟨b, off + k * 7 + 5, none⟩ = some (.slice i1' i2' i3') ∧ w'.cell? ⟨b, off + k * 7 + 6, none⟩ = some (.slice r1' r2' r3')) (go_keep)
        (first | (go_at_call 16; refine K5.out.mono ?_; rintro e w6 ⟨rfl, u6⟩; have p0 := cellUp u6 n0; have p1 := cellUp u6 n1; have p2 := cellUp u6 n2; have p3 := cellUp u6 n3; have p4 := cellUp u6 n4; have p5 := cellUp u6 n5; have p6 := cellUp u6 n6; have q0 := cellUp u6 e0'; have q1 := cellUp u6 e1'; have q2 := cellUp u6 e2'; have q3 := cellUp u6 e3'; have q4 := cellUp u6 e4'; have q5 := cellUp u6 e5'; have q6 := cellUp u6 e6'; have HU6 := hide u6; clear u6))
      all_goals
        go_wp2_with fail
        refine ⟨⟨k + 1, y, g', by omega, by go_num, rfl, hl2, HG.out, HUW.out.tr HU6.out⟩, ?_⟩
        simp [intOf]
        omega
    · have hkK : k = J.length := by omega
      subst hkK
      rw [List.take_length] at hg
      have K1 := HE.out wr a ha (allR_end hg)
      have K2 := fun (W : World) => awake_any W
      have HK1 := hide K1
      have HK2 := hide K2
      have hkI : ¬ ((J.length : Int) < (J.length : Int)) := by omega
      have HUP := hide hup
      clear K1 K2 hg hup
      go_wp2_with (first
        | (go_at_call 14; refine HK1.out.mono ?_; rintro e w3 ⟨u3, rfl⟩; have HU3 := hide (HUP.out.tr u3); clear u3)
        | (go_at_call 13; refine (HK2.out _).mono ?_; rintro e w5 ⟨rfl, u5⟩))
      go_ret
      exact ⟨rfl, ((H1.out.1.tr HU3.out).tr (up_alloc _ _)).tr u5⟩

set_option maxHeartbeats 4000000 in
set_option maxRecDepth 100000 in
theorem chains_bad (t : ByteArray) (x e0 : Int) (w : World) (he : ¬ (e0 = 0)) (hA : Calls Try.prog 10 #[.string t] w fun e w' => e = .returned (.tuple #[.slice none 0 0, .int .i64 x, .int .i64 e0]) ∧ Up w w') :
    Calls Try.prog 5 #[.string t] w fun e w' => e = .returned (.bool true) ∧ Up w w' := by
  have HA := hide hA
  have K2 := fun (W : World) => awake_any W
  have HK2 := hide K2
  clear hA K2
  go_enter Try.func5, Try.ntmps5
  go_wp2_with (first
    | (go_at_call 10; refine HA.out.mono ?_; rintro e w1 ⟨rfl, u1⟩; have H1 := hide u1; clear u1)
    | (go_at_call 13; refine (HK2.out _).mono ?_; rintro e w5 ⟨rfl, u5⟩))
  go_ret
  exact ⟨rfl, H1.out.tr u5⟩

theorem readChains_any (t : ByteArray) (w : World) (ht : t.size ≤ 9223372036854775807) : Calls Try.prog 5 #[.string t] w fun e w' => e = .returned (.bool true) ∧ Up w w' := by
  by_cases hl : t.size ≤ 65536
  · have h := all_fuel t (3 * t.size + 4) (t.size + 1) w hl (Nat.le_refl _) (Nat.le_refl _)
    match hR : allR (rdM t.data.toList (3 * t.size + 4) 100) (t.size + 1) 0 [] with
    | .inl q =>
      have hq : q.er ≠ 0 := allR_er (by rw [bytes_len]; exact Nat.le_refl _) _ _ _ q (Nat.zero_le _) (by rw [bytes_len]; exact Nat.le_refl _) hR
      exact chains_bad t (q.x : Int) (q.er : Int) w (by omega) ((all_bad hR h).mono fun _ _ h => ⟨h.2, h.1⟩)
    | .inr J =>
      exact chains_walk t 100 (t.size + 1) (rdM t.data.toList (3 * t.size + 4) 100) J w hl hR (all_good hR h) (fun W a x y tr a' ha e => one_good2 e (one_fuel t _ a W hl ha (Nat.le_refl _))) (fun W a ha e => one_end hl ha (Nat.le_refl _) e) (fun a x y tr a' ha e => rT_lt (by omega) ha e)
  · exact chains_bad t 0 2 w (by decide) (all_long t w (by omega) ht)

end Go.Proofs.Yteipogfolnlblaa
