/-
  What is proved here: tandemlaw03's grown: a heap behind any script, on both sides the same.
-/
import Derived.Test.YtfeofdeffmnbkaaHDoAll
namespace Go.Proofs.Ytfeofdeffmnbkaa
open Go Go.RowKit

theorem wrap_small (x : Int) (h0 : 0 ≤ x) (h : x ≤ 1048577) : IntKind.i64.wrap x = x ∧ IntKind.u64.wrap x = x := by
  simp only [IntKind.wrap, IntKind.bits, IntKind.signed]
  simp
  omega
theorem doStep_len {sz l L : Nat} {tm : Int} {n : Nat} {f : Nat → Nat} {st : Nat → Bool} {m : Nat} {o : Nat → Nat} {tm2 : Int} {n2 : Nat} {f2 : Nat → Nat} {st2 : Nat → Bool} {m2 : Nat} {o2 : Nat → Nat} (h : DoStep sz l tm n f st m o tm2 n2 f2 st2 m2 o2) (hl : l ≤ L) (hm : m ≤ L + 1 + n) : m2 ≤ L + 1 + n2 ∧ tm ≤ tm2 ∧ tm2 ≤ tm + 1 := by
  rcases h with ⟨h1, h2, h3, h4, h5, h6⟩ | ⟨h1, a, b, h2, h3⟩ | ⟨h1, r, h2, h3, h4, h5, h6, h7⟩
  · omega
  · rcases h2 with ⟨_, h2, _, _⟩ | ⟨_, _, k, t, r, _, _, _, _, _, h2, _, _⟩
    · rcases h3 with ⟨_, h3, _⟩ | ⟨h3, _, _⟩
      · omega
      · simp_all
    · rcases h3 with ⟨_, h3, _⟩ | ⟨_, h3, _⟩
      · omega
      · omega
  · omega

set_option maxRecDepth 20000 in
set_option maxHeartbeats 10000000 in
theorem grown_any (I : Nat → (Nat → Nat) → (Nat → Bool) → Nat → (Nat → Nat) → Prop) (z : Int) (ao : Option Addr) (N cap L : Nat) (w : World) (hI : ∀ sz, Kept sz L I) (hs : OpsIn w ao N L) (hN : N ≤ 1048576) (hL : L ≤ 1048576) (hz : Rng z) (_hc : N ≤ cap) :
    Calls Try.prog 15 #[.int .i64 z, .slice ao N cap] w fun e w' => ∃ ob hb rb sz tm n f st m o, e = .returned (.pointer (some ⟨ob, 0, none⟩)) ∧ OnAt w.heap.size w' ob hb rb sz tm n f st m o ∧ Fr (fun k => w.heap.size ≤ k) w w' ∧ 0 ≤ tm ∧ tm ≤ N ∧ m ≤ L + 1 + n ∧ 64 ≤ sz ∧ sz ≤ 563 ∧ I n f st m o := by
  have KP := place_any z 500 w (by decide) (by decide) hz.1 hz.2
  obtain ⟨S, hS1, hS2, hSI⟩ : ∃ S : Nat, 64 ≤ S ∧ S ≤ 563 ∧ 64 + (((z % ((500 : Nat) : Int)).toNat : Nat) : Int) = (S : Int) := ⟨64 + (z % 500).toNat, by omega, by omega, by simp⟩
  obtain ⟨q, hq⟩ : ∃ q : Nat, (z % ((500 : Nat) : Int)).toNat = q := ⟨_, rfl⟩
  rw [hq] at KP hSI
  have HS := hide hs
  have HI := hide hI
  clear hq hs hI hz
  go_enter Try.func15, Try.ntmps15
  go_wp2_with (first
    | (go_at_call 22; refine KP.mono ?_; rintro e w1 ⟨rfl, hw⟩; replace hw := hw.symm; subst hw)
    | (go_at_call 11; refine (onnew_ok S w (by omega) (by omega)).mono ?_; rintro e w1 ⟨ob, hb, X, rb, Y, rfl, hO, hX, hY, hob, hF⟩; have c0 := hO.cells.1; have HO : Hid (OnAt w.heap.size w1 ob hb rb S 0 1 (fun _ => 0) (fun _ => false) 0 (fun _ => 0)) := hide ⟨X, Y, _, hO, hX, hY, hob, fun g hg => by cases hg⟩; have HF := hide hF; clear hO hX hY hob hF))
  go_loopw [7] (fun a7 wr => ∃ (j : Nat) (tm : Int) (n : Nat) (f : Nat → Nat) (st : Nat → Bool) (m : Nat) (o : Nat → Nat), j ≤ N ∧ a7 = .int .i64 (j : Int) ∧ OnAt w.heap.size wr ob hb rb S tm n f st m o ∧ Fr (fun k => w.heap.size ≤ k) w wr ∧ 0 ≤ tm ∧ tm ≤ (j : Int) ∧ m ≤ L + 1 + n ∧ I n f st m o) (fun a7 _ => N - (intOf a7).toNat)
  case atStart => exact ⟨0, 0, 1, _, _, 0, _, Nat.zero_le _, rfl, HO.out, HF.out.some, by omega, by omega, by omega, (HI.out S).zero⟩
  case round =>
    obtain ⟨j, tm, n, f, st, m, o, hj, rfl, hO, hF, ht1, ht2, hm, hi⟩ := hrel
    clear HO HF c0
    by_cases hlt : j < N
    · obtain ⟨b, off, rfl, hops⟩ : ∃ b off, ao = some ⟨b, off, none⟩ ∧ _ := by
        rcases HS.out with e | e
        · omega
        · exact e
      obtain ⟨k, a, b', c, y, bo, vR, l, g, hv, hl, e0, e1, e2, e3, e4, e5, e6⟩ := hops j hlt
      have hbl := World.block_lt_of_cell? _ _ e0
      have nb : ¬ (w.heap.size ≤ b) := Nat.not_le.2 hbl
      replace e0 := (hF.cell hbl nb).trans e0
      replace e1 := (hF.cell hbl nb).trans e1
      replace e2 := (hF.cell hbl nb).trans e2
      replace e3 := (hF.cell hbl nb).trans e3
      replace e4 := (hF.cell hbl nb).trans e4
      replace e5 := (hF.cell hbl nb).trans e5
      replace e6 := (hF.cell hbl nb).trans e6
      have hgood : Good n f st ∧ (∀ i, i < n → f i < 18446744073709551616) ∧ n ≤ S := by
        obtain ⟨X, Y, vO, h, _⟩ := hO
        exact ⟨h.H.good.1, h.H.good.2.1, h.H.good.2.2.1⟩
      have KD := do_any w.heap.size wr ob hb rb S tm n f st m o k a b' c y bo vR l g hO hF.size (hv.fr hF) ht1 (by omega) (by omega) (by omega)
      have HD := hide KD
      have HG := hide hgood
      have HF := hide hF
      have Hi := hide hi
      have Hm := hide hm
      have Hl := hide hl
      have hjI : (j : Int) < (N : Int) := by omega
      clear KD hgood hF hi hm hl hops hv hO HS hbl nb
      go_wp2_with (go_at_call 13; refine HD.out.mono ?_; rintro e w2 ⟨rfl, tm2, n2, f2, st2, m2, o2, hO2, hF2, hD2⟩)
      have hlen := doStep_len hD2 Hl.out Hm.out
      refine ⟨⟨j + 1, tm2, n2, f2, st2, m2, o2, by omega, by go_num, hO2, HF.out.on hF2, by omega, by omega, hlen.1, (HI.out S).step l tm n f st m o tm2 n2 f2 st2 m2 o2 Hl.out HG.out.1 HG.out.2.1 HG.out.2.2 Hi.out hD2⟩, ?_⟩
      simp [intOf]
      omega
    · have hjN : N = j := by omega
      subst hjN
      go_wp2
      go_ret
      exact ⟨ob, hb, rb, S, tm, n, f, st, m, o, rfl, hO, hF, ht1, ht2, hm, hS1, hS2, hi⟩

end Go.Proofs.Ytfeofdeffmnbkaa
