/-
  What is proved here: HeapPlays answers true for every number and every script, and turns nothing that was there.
-/
import Derived.Test.YtfeofdeffmnbkaaHGrown
import Derived.Test.YtfeofdeffmnbkaaHOnSame
namespace Go.Proofs.Ytfeofdeffmnbkaa
open Go Go.RowKit

set_option maxRecDepth 20000 in
set_option maxHeartbeats 10000000 in
theorem heapPlays_walk (x0 : Int) (ao : Option Addr) (N cap L : Nat) (w : World) (hs : OpsIn w ao N L) (hN : N ≤ 1048576) (hL : L ≤ 1048576) (_hc : N ≤ cap) (_h01 : -9223372036854775808 ≤ x0) (_h02 : x0 ≤ 9223372036854775807) :
    Calls Try.prog 3 #[.int .i64 x0, .slice ao N cap] w fun e w' => e = .returned (.bool true) ∧ Below w.heap.size w w' := by
  by_cases hbad : x0 < 2 ∨ 1048576 < x0
  · have KB := onnew_bad x0 w hbad
    have HB := hide KB
    clear KB hs hbad
    go_enter Try.func3, Try.ntmps3
    go_wp2_with (first
      | (go_at_call 11; refine HB.out.mono ?_; rintro e w1 ⟨ob, rfl, c0, F1⟩; have HF := hide F1; clear F1 HB)
      | (go_at_call 12; refine (awake_any _).mono ?_; rintro e w5 ⟨rfl, F5⟩))
    go_ret
    exact ⟨rfl, ((HF.out.trans F5 (fun _ _ e => e)).below (Nat.le_refl _) (fun k hk e => e))⟩
  · obtain ⟨S, rfl⟩ : ∃ S : Nat, x0 = (S : Int) := ⟨x0.toNat, by omega⟩
    have hS1 : 2 ≤ S := by omega
    have hS2 : S ≤ 1048576 := by omega
    have HS := hide hs
    clear hs hbad
    go_enter Try.func3, Try.ntmps3
    go_wp2_with (go_at_call 11; refine (onnew_ok S w hS1 hS2).mono ?_; rintro e w1 ⟨ob, hb, X, rb, Y, rfl, hO, hX, hY, hob, hF⟩; have c0 := hO.cells.1; have HO : Hid (OnAt w.heap.size w1 ob hb rb S 0 1 (fun _ => 0) (fun _ => false) 0 (fun _ => 0)) := hide ⟨X, Y, _, hO, hX, hY, hob, fun g hg => by cases hg⟩; have HF := hide hF; clear hO hX hY hob hF)
    go_loopw [7] (fun a7 wr => ∃ (j : Nat) (tm : Int) (n : Nat) (f : Nat → Nat) (st : Nat → Bool) (m : Nat) (o : Nat → Nat), j ≤ N ∧ a7 = .int .i64 (j : Int) ∧ OnAt w.heap.size wr ob hb rb S tm n f st m o ∧ Fr (fun k => w.heap.size ≤ k) w wr ∧ 0 ≤ tm ∧ tm ≤ (j : Int) ∧ m ≤ L + 1 + n ∧ n ≤ S) (fun a7 _ => N - (intOf a7).toNat)
    case atStart => exact ⟨0, 0, 1, _, _, 0, _, Nat.zero_le _, rfl, HO.out, HF.out.some, by omega, by omega, by omega, by omega⟩
    case round =>
      obtain ⟨j, tm, n, f, st, m, o, hj, rfl, hO, hF, ht1, ht2, hm, hnS⟩ := hrel
      clear HO HF c0
      by_cases hlt : j < N
      · obtain ⟨b, off, rfl, hops⟩ : ∃ b off, ao = some ⟨b, off, none⟩ ∧ _ := by
          rcases HS.out with e | e
          · omega
          · exact e
        obtain ⟨k, a, b', c, y, bo, vR, l, g, hv, hl, e0, e1, e2, e3, e4, e5, e6⟩ := hops j hlt
        have hbl := World.block_lt_of_cell? _ _ e0
        have nb : ¬ (w.heap.size ≤ b) := Nat.not_le.2 hbl
        replace e0 := (hF.cell hbl nb).trans e0
        replace e1 := (hF.cell hbl nb).trans e1
        replace e2 := (hF.cell hbl nb).trans e2
        replace e3 := (hF.cell hbl nb).trans e3
        replace e4 := (hF.cell hbl nb).trans e4
        replace e5 := (hF.cell hbl nb).trans e5
        replace e6 := (hF.cell hbl nb).trans e6
        have KD := do_any w.heap.size wr ob hb rb S tm n f st m o k a b' c y bo vR l g hO hF.size (hv.fr hF) ht1 (by omega) (by omega) (by omega)
        have HD := hide KD
        have HF := hide hF
        have Hm := hide hm
        have Hl := hide hl
        have hjI : (j : Int) < (N : Int) := by omega
        clear KD hF hm hl hops hv hO HS hbl nb hnS
        go_wp2_with (first
          | (go_at_call 13; refine HD.out.mono ?_; rintro e w2 ⟨rfl, tm2, n2, f2, st2, m2, o2, hO2, hF2, hD2⟩; obtain ⟨X2, Y2, vO2, hI2, p1, p2, p3, p4⟩ := hO2; have HI2 := hide hI2; have HP2 := hide (And.intro p1 (And.intro p2 (And.intro p3 p4))); have HF2 := hide (HF.out.on hF2); have hlen := doStep_len hD2 Hl.out Hm.out; have HLn := hide hlen; clear hI2 p1 p2 p3 p4 hF2 hD2 hlen)
          | (go_at_call 14; refine (same_any w2 ob hb X2 rb Y2 vO2 S tm2 n2 f2 st2 m2 o2 HI2.out).mono ?_; rintro e w3 ⟨rfl, F3⟩))
        have hlen := HLn.out
        refine ⟨⟨j + 1, tm2, n2, f2, st2, m2, o2, by omega, by go_num, ⟨X2, Y2, vO2, HI2.out.fr F3 (fun _ _ e => e), HP2.out.1, HP2.out.2.1, HP2.out.2.2.1, HP2.out.2.2.2⟩, HF2.out.on F3.some, by omega, by omega, hlen.1, HI2.out.H.good.2.2.1⟩, ?_⟩
        simp [intOf]
        omega
      · have hjN : N = j := by omega
        subst hjN
        go_wp2_with (go_at_call 12; refine (awake_any _).mono ?_; rintro e w5 ⟨rfl, F5⟩)
        go_ret
        exact ⟨rfl, (hF.on F5.some).below (Nat.le_refl _) (fun k hk e => by omega)⟩

end Go.Proofs.Ytfeofdeffmnbkaa
