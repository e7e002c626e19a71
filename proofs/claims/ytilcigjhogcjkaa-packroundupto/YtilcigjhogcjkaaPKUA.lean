/-
  What is proved here: tandemlaw00.Same and SameAll of two data, or of two rows of data, that are the same, wherever they lie.
-/
import Derived.Test.YtilcigjhogcjkaaPKUA0
namespace Go.Proofs.Ytilcigjhogcjkaa
open Go Go.RowKit
def SameOK (h : Nat) : Prop := ∀ (d : Tr h) (c0 c1 c2 c3 c4 c5 c6 e0 e1 e2 e3 e4 e5 e6 : Value) (w : World), DatC w h d [c0, c1, c2, c3, c4, c5, c6] → DatC w h d [e0, e1, e2, e3, e4, e5, e6] →
  Calls Try.prog 51 #[.agg #[c0, c1, c2, c3, c4, c5, c6], .agg #[e0, e1, e2, e3, e4, e5, e6]] w fun e w' => e = .returned (.bool true) ∧ Up w w'

def SameAllOK (h : Nat) : Prop := ∀ (I : List (Tr h)) (u v : Value) (w : World), RowD w (DatC w h) u I → RowD w (DatC w h) v I →
  Calls Try.prog 35 #[u, v] w fun e w' => e = .returned (.bool true) ∧ Up w w'

/-- One of a row's data, in a later world. -/
theorem row_seven {w W : World} {h : Nat} {I : List (Tr h)} {ao : Option Addr} {n cap : Nat} (hr : RowD w (DatC w h) (.slice ao n cap) I) (u : Up w W) {i : Nat} (hi : i < I.length) :
    ∃ b off, ao = some ⟨b, off, none⟩ ∧ ∃ k m bb m1 m2 m3 t i1 i2 i3 r1 r2 r3, DatC W h I[i] [.int .i64 k, .int .i64 m, .bool bb, .slice m1 m2 m3, .string t, .slice i1 i2 i3, .slice r1 r2 r3] ∧
      W.cell? ⟨b, off + i * 7, none⟩ = some (.int .i64 k) ∧ W.cell? ⟨b, off + i * 7 + 1, none⟩ = some (.int .i64 m) ∧ W.cell? ⟨b, off + i * 7 + 2, none⟩ = some (.bool bb) ∧ W.cell? ⟨b, off + i * 7 + 3, none⟩ = some (.slice m1 m2 m3) ∧ W.cell? ⟨b, off + i * 7 + 4, none⟩ = some (.string t) ∧ W.cell? ⟨b, off + i * 7 + 5, none⟩ = some (.slice i1 i2 i3) ∧ W.cell? ⟨b, off + i * 7 + 6, none⟩ = some (.slice r1 r2 r3) := by
  obtain ⟨-, b, off, rfl, cs, k1, k2, k3⟩ := hr.get hi
  refine ⟨b, off, rfl, ?_⟩
  have hlt : b < w.heap.size := by
    have k0 := k2 0 (by decide)
    have : cs[0]? = some (cs[0]'(by omega)) := List.getElem?_eq_getElem (by omega)
    rw [this] at k0
    exact World.block_lt_of_cell? w _ k0
  have k4 : ∀ j, j < 7 → W.cell? ⟨b, off + i * 7 + j, none⟩ = cs[j]? := fun j hj => (u.cell (p := ⟨b, off + i * 7 + j, none⟩) hlt).trans (k2 j hj)
  have k5 := k3.up u
  generalize I[i] = tr at *
  match h, tr, k5 with
  | h + 1, (k, m, bb, L, t, J, R), k5 =>
    obtain ⟨um, ui, ur, rfl, h0, h1, h2, h3, h4⟩ := id k5
    obtain ⟨m1, m3, rfl, -⟩ := id h1
    obtain ⟨i1, i3, rfl⟩ := h3.shape
    obtain ⟨r1, r3, rfl⟩ := h4.shape
    exact ⟨k, m, bb, m1, _, m3, t, i1, _, i3, r1, _, r3, k5, k4 0 (by decide), k4 1 (by decide), k4 2 (by decide), k4 3 (by decide), k4 4 (by decide), k4 5 (by decide), k4 6 (by decide)⟩

set_option maxHeartbeats 4000000 in
set_option maxRecDepth 100000 in
theorem sameAll_of {h : Nat} (hS : SameOK h) : SameAllOK h := by
  intro I u v w hu hv
  obtain ⟨ao, cap, rfl, hc1, hc2, -⟩ := id hu
  obtain ⟨ao', cap', rfl, -⟩ := id hv
  have HU := hide hu
  have HV := hide hv
  have HS := hide hS
  have hIl : I.length ≤ 9223372036854775807 := by omega
  have hne : ((I.length : Int) != (I.length : Int)) = false := by simp
  clear hu hv hS
  go_enter Try.func35, Try.ntmps35
  go_wp2_with fail
  go_loopw [5] (fun t wr => ∃ k : Nat, k ≤ I.length ∧ t = .int .i64 k ∧ Up w wr) (fun t _ => I.length - (intOf t).toNat)
  case atStart => exact ⟨0, Nat.zero_le _, rfl, Up.refl _⟩
  case round =>
    obtain ⟨k, hk, rfl, hup⟩ := hrel
    by_cases hlt : k < I.length
    · obtain ⟨b, off, rfl, c0, c1, c2, m1, m2, m3, c4, i1, i2, i3, r1, r2, r3, hd, e0, e1, e2, e3, e4, e5, e6⟩ := row_seven HU.out (hup.tr (up_drew _)) hlt
      obtain ⟨b', off', rfl, c0', c1', c2', m1', m2', m3', c4', i1', i2', i3', r1', r2', r3', hd', e0', e1', e2', e3', e4', e5', e6'⟩ := row_seven HV.out (hup.tr (up_drew _)) hlt
      have K1 := hide (HS.out _ _ _ _ _ _ _ _ _ _ _ _ _ _ _ _ hd hd')
      have hkI : (k : Int) < (I.length : Int) := by omega
      have HUP := hide hup
      clear hd hd' hup
      go_wp2_with fail
      go_region_with (go_at_call 51; refine K1.out.mono ?_; rintro e w3 ⟨rfl, u3⟩)
      all_goals
        go_wp2_with fail
        refine ⟨⟨k + 1, by omega, by go_num, (HUP.out.tr (up_drew _)).tr u3⟩, ?_⟩
        simp [intOf]
        omega
    · have hkI : ¬ ((k : Int) < (I.length : Int)) := by omega
      go_wp2_with fail
      go_ret
      exact ⟨rfl, hup⟩

set_option maxHeartbeats 4000000 in
set_option maxRecDepth 100000 in
theorem same_of {h : Nat} (hA : SameAllOK h) : SameOK (h + 1) := by
  rintro ⟨k, n, b, L, t, I, R⟩ c0 c1 c2 c3 c4 c5 c6 d0 d1 d2 d3 d4 d5 d6 w hd he
  obtain ⟨um, ui, ur, e, -, hM, -, hI, hR⟩ := hd
  simp at e
  obtain ⟨rfl, rfl, rfl, rfl, rfl, rfl, rfl⟩ := e
  obtain ⟨vm, vi, vr, e, -, gM, -, gI, gR⟩ := he
  simp at e
  obtain ⟨rfl, rfl, rfl, rfl, rfl, rfl, rfl⟩ := e
  have KN := fun (V : World) (u : Up w V) => sameNum_all c3 d3 b L.length (fun i => L.getD i 0) V (hM.below u (Nat.le_refl _)) (gM.below u (Nat.le_refl _))
  have KI := fun (V : World) (u : Up w V) => hA I c5 d5 V (hI.upD u) (gI.upD u)
  have KR := fun (V : World) (u : Up w V) => hA R c6 d6 V (hR.upD u) (gR.upD u)
  obtain ⟨aom, capm, rfl, -⟩ := id hM
  obtain ⟨bom, dapm, rfl, -⟩ := id gM
  obtain ⟨aoi, capi, rfl⟩ := hI.shape
  obtain ⟨aor, capr, rfl⟩ := hR.shape
  obtain ⟨boi, dapi, rfl⟩ := gI.shape
  obtain ⟨bor, dapr, rfl⟩ := gR.shape
  have u1 := up_alloc w (.cells #[.int .i64 k, .int .i64 n, .bool b, .slice aom L.length capm, .string t, .slice aoi I.length capi, .slice aor R.length capr] 64)
  have g1 := heap_alloc_new w (.cells #[.int .i64 k, .int .i64 n, .bool b, .slice aom L.length capm, .string t, .slice aoi I.length capi, .slice aor R.length capr] 64)
  have z1 : (w.alloc (.cells #[.int .i64 k, .int .i64 n, .bool b, .slice aom L.length capm, .string t, .slice aoi I.length capi, .slice aor R.length capr] 64)).heap.size = w.heap.size + 1 := World.size_alloc _ _
  obtain ⟨W1, hW1⟩ : ∃ W1, W1 = w.alloc (.cells #[.int .i64 k, .int .i64 n, .bool b, .slice aom L.length capm, .string t, .slice aoi I.length capi, .slice aor R.length capr] 64) := ⟨_, rfl⟩
  rw [← hW1] at u1 g1 z1
  obtain ⟨W2, hW2⟩ : ∃ W2, W2 = W1.alloc (.cells #[.int .i64 k, .int .i64 n, .bool b, .slice bom L.length dapm, .string t, .slice boi I.length dapi, .slice bor R.length dapr] 64) := ⟨_, rfl⟩
  have u2 : Up W1 W2 := by rw [hW2]; exact up_alloc _ _
  have g2 : W2.heap[w.heap.size + 1]? = some (.cells #[.int .i64 k, .int .i64 n, .bool b, .slice bom L.length dapm, .string t, .slice boi I.length dapi, .slice bor R.length dapr] 64 (0, 0)) := by rw [hW2, ← z1]; exact heap_alloc_new _ _
  have g1' := u2.old g1
  obtain ⟨m0, m1, m2, m3, m4, m5, m6⟩ := cells7 g1'
  obtain ⟨n0, n1, n2, n3, n4, n5, n6⟩ := cells7 g2
  rw [hW1] at hW2
  have HW := hide hW2
  have HG := hide (And.intro g1' (And.intro g2 (u1.tr u2)))
  have HN := hide KN
  have HI := hide KI
  have HR := hide KR
  clear u1 g1 z1 hW1 u2 g2 g1' hW2 KN KI KR hM gM hI gI hR gR hA
  clear W1
  go_enter Try.func51, Try.ntmps51
  go_wp2_with fail
  rw [← HW.out]
  go_wp2_with (first
    | (go_at_call 67; refine (HN.out _ HG.out.2.2).mono ?_; rintro e w3 ⟨rfl, u3⟩; clear m0 m1 m2 m3 m4 m5 m6 n0 n1 n2 n3 n4 n5 n6; obtain ⟨m0, m1, m2, m3, m4, m5, m6⟩ := cells7 (u3.old HG.out.1); obtain ⟨n0, n1, n2, n3, n4, n5, n6⟩ := cells7 (u3.old HG.out.2.1); have HU3 := hide (HG.out.2.2.tr u3); have HG3 := hide (And.intro (u3.old HG.out.1) (u3.old HG.out.2.1)); clear u3)
    | (have h4 := HU4; clear h4; go_at_call 35; refine (HR.out _ HU4.out).mono ?_; rintro e w5 ⟨rfl, u5⟩; have HU5 := hide (HU4.out.tr u5); clear u5)
    | (go_at_call 35; refine (HI.out _ HU3.out).mono ?_; rintro e w4 ⟨rfl, u4⟩; clear m0 m1 m2 m3 m4 m5 m6 n0 n1 n2 n3 n4 n5 n6; obtain ⟨m0, m1, m2, m3, m4, m5, m6⟩ := cells7 (u4.old HG3.out.1); obtain ⟨n0, n1, n2, n3, n4, n5, n6⟩ := cells7 (u4.old HG3.out.2); have HU4 := hide (HU3.out.tr u4); clear u4))
  go_ret
  exact ⟨rfl, HU5.out⟩

theorem same_all : (h : Nat) → SameOK h
  | 0 => fun d => (show Empty from d).elim
  | h + 1 => same_of (sameAll_of (same_all h))

theorem sameAll_all (h : Nat) : SameAllOK h := sameAll_of (same_all h)

end Go.Proofs.Ytilcigjhogcjkaa
