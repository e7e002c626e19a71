/-
  What is proved here: what tandemlaw10.PackApart calls, at a program and it with one thing turned.
-/
import Derived.Test.YtilcigjhogcjkaaPKApM
import Derived.Test.YtilcigjhogcjkaaPKApT
import Derived.Test.YtilcigjhogcjkaaPKSp1
import Derived.Test.YtilcigjhogcjkaaPKAwake
namespace Go.Proofs.Ytilcigjhogcjkaa
open Go Go.RowKit

theorem retI {k : IntKind} {a b : Int} (h : a = b) : Ending.returned (.int k a) = .returned (.int k b) := by rw [h]
theorem place_num (v : Int) (n : Nat) (hn : 1 ≤ n) : (v.tmod n < 0 → v.tmod n + n = ((v % (n : Int)).toNat : Int)) ∧ (0 ≤ v.tmod n → v.tmod n = ((v % (n : Int)).toNat : Int)) ∧ - (n : Int) < v.tmod n := by
  have hm1 : 0 ≤ v % (n : Int) := Int.emod_nonneg _ (by omega)
  have hm2 : v % (n : Int) < n := Int.emod_lt_of_pos _ (by omega)
  have e := @Int.tmod_eq_emod v n
  by_cases hv : 0 ≤ v ∨ (n : Int) ∣ v
  · rw [if_pos hv] at e
    simp only [Int.natCast_zero, Int.sub_zero] at e
    refine ⟨fun h => by omega, fun _ => by omega, by omega⟩
  · rw [if_neg hv, Int.natAbs_natCast] at e
    have : v % (n : Int) ≠ 0 := fun h => hv (.inr (Int.dvd_of_emod_eq_zero h))
    refine ⟨fun h => by omega, fun _ => by omega, by omega⟩
set_option maxRecDepth 20000 in
theorem place_at (v : Int) (n : Nat) (w : World) (h1 : 1 ≤ n) (h2 : n ≤ 4611686018427387903) (_hv1 : -9223372036854775808 ≤ v) (_hv2 : v ≤ 9223372036854775807) :
    Calls Try.prog 17 #[.int .i64 v, .int .i64 (n : Int)] w fun e w' => e = .returned (.int .i64 ((v % (n : Int)).toNat : Int)) ∧ w' = w := by
  have e1 : ((n : Int) != 0) = true := by rw [bne_iff_ne]; omega
  obtain ⟨p1, p2, p3⟩ := place_num v n h1
  have P1 := hide p1
  have P2 := hide p2
  clear p1 p2
  go_enter Try.func17, Try.ntmps17
  go_wp2
  · go_ret
    exact ⟨retI (P1.out ‹_›), rfl⟩
  · go_ret
    exact ⟨retI (P2.out ‹_›), rfl⟩
theorem place_some (v : Int) (n : Nat) (h1 : 1 ≤ n) (h2 : n ≤ 4611686018427387903) (hv1 : -9223372036854775808 ≤ v) (hv2 : v ≤ 9223372036854775807) :
    ∃ k : Nat, k < n ∧ ∀ w, Calls Try.prog 17 #[.int .i64 v, .int .i64 (n : Int)] w fun e w' => e = .returned (.int .i64 (k : Int)) ∧ w' = w :=
  ⟨(v % (n : Int)).toNat, by
    have hm1 : 0 ≤ v % (n : Int) := Int.emod_nonneg _ (by omega)
    have hm2 : v % (n : Int) < n := Int.emod_lt_of_pos _ (by omega)
    omega, fun w => place_at v n w h1 h2 hv1 hv2⟩
/-- What Write comes to, of a program whose bytes are T. -/
def WrT (W : World) (T : List Nat) (q : Int) (e : Ending) (w' : World) : Prop := ∃ (a : Option Addr) (c : Nat), e = .returned (.tuple #[.slice a T.length c, .int .i64 q]) ∧ ByAt w' W.heap.size (.slice a T.length c) T ∧ Fr (fun _ => False) W w'
theorem writeT {N : Nat} {ps : List (PC N)} (hl : (pgB ps).length ≤ 900000000) (W : World) (v' : Value) (h : RowD W (PCell W) v' ps) : Calls Try.prog 8 #[v'] W fun e w' => WrT W (if mayW ps then pgB ps else []) (if mayW ps then 0 else 1) e w' :=
  (write_any W ps v' h (by omega)).mono (by
    rintro e w' ⟨v2, rfl, hb2, F2⟩
    obtain ⟨a, c, rfl⟩ : ∃ a c, v2 = .slice a (if mayW ps then pgB ps else []).length c := by
      rcases hb2.2 with ⟨e, e0⟩ | ⟨g, cap, cur, e, _⟩
      · exact ⟨none, 0, by rw [e, e0]⟩
      · exact ⟨_, _, e⟩
    exact ⟨a, c, rfl, hb2, F2⟩)
/-- What CopyProtos comes to, of a program that has protos. -/
def CPG {N : Nat} (w : World) (ps : List (PC N)) (e : Ending) (w' : World) : Prop := ∃ G cap xs L, e = .returned (.slice (some ⟨G, 0, none⟩) ps.length cap) ∧ CPO w ps ps.length (.slice (some ⟨G, 0, none⟩) ps.length cap) xs w' L
theorem copyG {N : Nat} (w : World) (ps : List (PC N)) (v : Value) (hr : RowD w (PCellN w) v ps) (hb : ∀ p, p ∈ ps → p.code.length ≤ 10000000 ∧ p.ns.length ≤ 10000000 ∧ (p.ks.map (bk N)).sum ≤ 10000000) (h3 : ps.length ≤ 10000000) (h0 : 0 < ps.length) :
    Calls Try.prog 9 #[v] w fun e w' => CPG w ps e w' :=
  (copyP_own w ps v hr hb h3).mono (by
    rintro e w' ⟨v2, xs, L, rfl, hA⟩
    rcases hA.own.2 with ⟨_, e0⟩ | ⟨g, cap, cur, e, _⟩
    · omega
    · subst e
      exact ⟨g, cap, xs, L, rfl, hA⟩)
theorem cells_onex (w : World) (a : Value) (E : TypeId) : ∀ j u, [a][j]? = some u → (w.alloc (.cells #[a] E)).cell? ((⟨w.heap.size, 0, none⟩ : Addr).add j) = some u := by
  intro j u hj
  rw [Addr.add_lit, Nat.zero_add, cell_of_row _ _ j _ _ _ (heap_alloc_new w _)]
  simpa using hj
theorem cells_three (w : World) (a b c : Value) (E : TypeId) : ∀ j u, [a, b, c][j]? = some u → (w.alloc (.cells #[a, b, c] E)).cell? ((⟨w.heap.size, 0, none⟩ : Addr).add j) = some u := by
  intro j u hj
  rw [Addr.add_lit, Nat.zero_add, cell_of_row _ _ j _ _ _ (heap_alloc_new w _)]
  simpa using hj
theorem CPO.fr3 {N : Nat} {w : World} {ps : List (PC N)} {k : Nat} {G n cap : Nat} {xs : List Value} {wr : World} {L : Nat → Nat} (h : CPO w ps k (.slice (some ⟨G, 0, none⟩) n cap) xs wr L) (i : Nat) (x : Value) : Fr (fun _ => False) w (wr.setCell ⟨G, i, none⟩ x) := h.fr.setCell (fun e => by have := h.own.lt G rfl; omega) i x
theorem CPO.field0 {N : Nat} {w : World} {ps : List (PC N)} {G cap : Nat} {xs : List Value} {wr : World} {L : Nat → Nat} (hA : CPO w ps ps.length (.slice (some ⟨G, 0, none⟩) ps.length cap) xs wr L) {j : Nat} (hj : j < ps.length) (s : ByteArray) : RowD (wr.setCell ⟨G, j * 7, none⟩ (.string s)) (PCellN (wr.setCell ⟨G, j * 7, none⟩ (.string s))) (.slice (some ⟨G, 0, none⟩) ps.length cap) (ps.set j { ps[j] with nm := s }) :=
  hA.field hj (f := 0) (by decide) (.string s) { ps[j] with nm := s } ⟨rfl, rfl, rfl⟩ rfl
theorem RowD.frP {N : Nat} {w w' : World} {v : Value} {ps : List (PC N)} (h : RowD w (PCell w) v ps) (F : Fr (fun _ => False) w w') : RowD w' (PCell w') v ps := h.up F.upw' (fun _ _ h => h.up F.upw')
theorem RowD.frN {N : Nat} {w w' : World} {v : Value} {ps : List (PC N)} (h : RowD w (PCellN w) v ps) (F : Fr (fun _ => False) w w') : RowD w' (PCellN w') v ps := h.up F.upw' (fun _ _ h => ⟨h.1.up F.upw', h.2⟩)
theorem RowD.plainP {N : Nat} {w : World} {v : Value} {ps : List (PC N)} (h : RowD w (PCellN w) v ps) : RowD w (PCell w) v ps := h.mono (fun _ _ h => h.1)

set_option maxRecDepth 20000 in
set_option maxHeartbeats 4000000 in
/-- A program that may not be written, or has no proto. -/
theorem apart_early {N : Nat} (w : World) (ps : List (PC N)) (v : Value) (what at' vv : Int) (hr : RowD w (PCellN w) v ps) (hB : (ps.map pbk).sum + 1 ≤ 1048576) (hm : mayW ps = false ∨ ps.length = 0) :
    Calls Try.prog 7 #[v, .int .i64 what, .int .i64 at', .int .i64 vv] w fun e w' => e = .returned (.bool true) ∧ Fr (fun _ => False) w w' := by
  obtain ⟨b1, b2⟩ := bulk_parts hB
  have hpg := pg_len ps
  have HKC := hide (copyP_any w ps v hr (fun p hp => by have := b1 p hp; omega) (by omega))
  have HKW := hide (fun (W : World) (v' : Value) (h : RowD W (PCell W) v' ps) => writeT (by omega) W v' h)
  obtain ⟨ao, ca, rfl⟩ := hr.shape
  have HKA := hide (fun (W : World) => awake_any W)
  cases h1 : mayW ps with
  | false =>
    rw [h1] at HKW
    clear hr hB hm b1 b2 hpg
    go_enter Try.func7, Try.ntmps7
    go_wp2_with (first
      | (go_at_call 9; refine HKC.out.mono ?_; rintro e1 w1 ⟨v1, rfl, hP1, F1⟩; have HP1 := hide hP1; have HF1 := hide F1; clear hP1 F1)
      | (go_at_call 8; refine (HKW.out _ _ HP1.out).mono ?_; rintro e2 w2 ⟨a2, c2, rfl, hb2, F2⟩; have HF2 := hide (HF1.out.trans F2 (fun _ _ e => e)); clear F2 hb2)
      | (go_at_call 12; refine (HKA.out _).mono ?_; rintro e4 w4 ⟨rfl, F4⟩; have HF4 := hide (HF2.out.trans F4 (fun _ _ e => e)); clear F4))
    go_ret
    exact ⟨rfl, HF4.out⟩
  | true =>
    have h0 : ps.length = 0 := hm.resolve_left (by rw [h1]; simp)
    rw [h1] at HKW
    rw [h0]
    rw [h0] at HKC
    clear hr hB hm b1 b2 hpg h0
    go_enter Try.func7, Try.ntmps7
    go_wp2_with (first
      | (go_at_call 9; refine HKC.out.mono ?_; rintro e1 w1 ⟨v1, rfl, hP1, F1⟩; have HP1 := hide hP1; have HF1 := hide F1; clear hP1 F1)
      | (go_at_call 8; refine (HKW.out _ _ HP1.out).mono ?_; rintro e2 w2 ⟨a2, c2, rfl, hb2, F2⟩; have HF2 := hide (HF1.out.trans F2 (fun _ _ e => e)); clear F2 hb2)
      | (go_at_call 12; refine (HKA.out _).mono ?_; rintro e4 w4 ⟨rfl, F4⟩; have HF4 := hide (HF2.out.trans F4 (fun _ _ e => e)); clear F4))
    go_ret
    exact ⟨rfl, HF4.out⟩

end Go.Proofs.Ytilcigjhogcjkaa
