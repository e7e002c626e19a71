/-
  What is proved here: tandemlaw03's grown once more: every field of the heap is one that may be, every object kept is one.
-/
import Derived.Test.YtfeofdeffmnbkaaHGrown
import Derived.Test.YtfeofdeffmnbkaaHTwice
namespace Go.Proofs.Ytfeofdeffmnbkaa
open Go Go.RowKit

structure Kp (f : Nat → Nat) (st : Nat → Bool) (m : Nat) (o : Nat → Nat) : Prop where
  fine : Fine f st
  ptr : ∀ i, i < m → isPtr st (o i) = true
theorem Kp.zero : Kp (fun _ => 0) (fun _ => false) 0 (fun _ => 0) := ⟨(fun _ h => by cases h), fun i hi => by omega⟩

theorem Fine.set {n : Nat} {f : Nat → Nat} {st : Nat → Bool} {f2 : Nat → Nat} (hg : Good n f st) (h : Fine f st) (hs : SetStep f st f2) : Fine f2 st := by
  rcases hs with rfl | ⟨x, i, y, hx, hi, hm, rfl⟩
  · exact h
  · obtain ⟨hx1, hx2⟩ := isPtr_st hx
    intro p hp j h1 h2
    have hL : ∀ q, hLen (f q) = 1 + hTag (f q) + hRaw (f q) := fun q => rfl
    have hne : p ≠ x / 4 + 1 + i := fun e => by
      have := hg.apart (x / 4) p hx1 hp (by omega)
      have := hL (x / 4)
      omega
    rw [upd_other hne] at h2
    by_cases e : p + j = x / 4 + 1 + i
    · rw [e, upd_same]; exact hm
    · rw [upd_other e]; exact h p hp j h1 h2
theorem Fine.raw {n : Nat} {f : Nat → Nat} {st : Nat → Bool} {f2 : Nat → Nat} (hg : Good n f st) (h : Fine f st) (hs : RawStep f st f2) : Fine f2 st := by
  rcases hs with rfl | ⟨x, i, y, hx, hi, rfl⟩
  · exact h
  · obtain ⟨hx1, hx2⟩ := isPtr_st hx
    intro p hp j h1 h2
    have hL : ∀ q, hLen (f q) = 1 + hTag (f q) + hRaw (f q) := fun q => rfl
    have hLx := hL (x / 4)
    have hLp := hL p
    have hne : p ≠ x / 4 + 1 + hTag (f (x / 4)) + i := fun e => by
      have := hg.apart (x / 4) p hx1 hp (by omega)
      omega
    rw [upd_other hne] at h2
    have hne2 : p + j ≠ x / 4 + 1 + hTag (f (x / 4)) + i := fun e => by
      rcases Nat.lt_trichotomy p (x / 4) with c | c | c
      · have := hg.apart p (x / 4) hp hx1 c
        omega
      · rw [c] at h2 e; omega
      · have := hg.apart (x / 4) p hx1 hp c
        omega
    rw [upd_other hne2]
    exact h p hp j h1 h2
theorem Fine.lay {n : Nat} {f : Nat → Nat} {st : Nat → Bool} (hg : Good n f st) (h : Fine f st) (x : Nat) : Fine (laid f n x) (also st n) := by
  intro p hp j h1 h2
  by_cases e : p = n
  · subst e
    rw [laid_head] at h2
    have : laid f p x (p + j) = 2 := by
      unfold laid
      rw [if_neg (by omega), if_neg (by omega), if_pos (by omega)]
    rw [this]
    rfl
  · have hp' : st p = true := by
      unfold also at hp
      simpa [e] using hp
    have hin := (hg.inn p hp').2
    have hL : hLen (f p) = 1 + hTag (f p) + hRaw (f p) := rfl
    rw [laid_old (by omega)] at h2
    rw [laid_old (by omega)]
    exact may_also (h p hp' j h1 h2)

theorem Kp.step {sz l : Nat} {tm : Int} {n : Nat} {f : Nat → Nat} {st : Nat → Bool} {m : Nat} {o : Nat → Nat} {tm2 : Int} {n2 : Nat} {f2 : Nat → Nat} {st2 : Nat → Bool} {m2 : Nat} {o2 : Nat → Nat} (hg : Good n f st) (hfb : ∀ i, i < n → f i < 18446744073709551616) (hn : n ≤ 1048576) (h : Kp f st m o) (hd : DoStep sz l tm n f st m o tm2 n2 f2 st2 m2 o2) : Kp f2 st2 m2 o2 := by
  rcases hd with ⟨_, _, rfl, rfl, rfl, hs⟩ | ⟨_, a, b, hl, ho⟩ | ⟨_, r, _, rfl, rfl, _, _, hp⟩
  · refine ⟨?_, h.ptr⟩
    rcases hs with hs | hs
    · exact h.fine.set hg hs
    · exact h.fine.raw hg hs
  · rcases hl with ⟨rfl, _, rfl, rfl⟩ | ⟨rfl, rfl, k, t, r, _, _, _, _, _, _, rfl, rfl⟩
    · rcases ho with ⟨_, rfl, rfl⟩ | ⟨e, _, _⟩
      · exact h
      · cases e
    · rcases ho with ⟨e, _, _⟩ | ⟨_, rfl, rfl⟩
      · cases e
      · refine ⟨h.fine.lay hg _, fun i hi => ?_⟩
        by_cases e : i = m
        · rw [e, upd_same]
          exact isPtr_of (also_new st n)
        · rw [upd_other e]
          exact isPtr_also (h.ptr i (by omega))
  · exact ⟨Fine.coll hg hfb hn h.fine r _, hp⟩

set_option maxRecDepth 20000 in
set_option maxHeartbeats 10000000 in
theorem grown_fine (z : Int) (ao : Option Addr) (N cap L : Nat) (w : World) (hs : OpsIn w ao N L) (hN : N ≤ 1048576) (hL : L ≤ 1048576) (hz : Rng z) (_hc : N ≤ cap) :
    Calls Try.prog 15 #[.int .i64 z, .slice ao N cap] w fun e w' => ∃ ob hb rb sz tm n f st m o, e = .returned (.pointer (some ⟨ob, 0, none⟩)) ∧ OnAt w.heap.size w' ob hb rb sz tm n f st m o ∧ Fr (fun k => w.heap.size ≤ k) w w' ∧ 0 ≤ tm ∧ tm ≤ N ∧ m ≤ L + 1 + n ∧ 64 ≤ sz ∧ sz ≤ 563 ∧ Kp f st m o := by
  have KP := place_any z 500 w (by decide) (by decide) hz.1 hz.2
  obtain ⟨S, hS1, hS2, hSI⟩ : ∃ S : Nat, 64 ≤ S ∧ S ≤ 563 ∧ 64 + (((z % ((500 : Nat) : Int)).toNat : Nat) : Int) = (S : Int) := ⟨64 + (z % 500).toNat, by omega, by omega, by simp⟩
  obtain ⟨q, hq⟩ : ∃ q : Nat, (z % ((500 : Nat) : Int)).toNat = q := ⟨_, rfl⟩
  rw [hq] at KP hSI
  have HS := hide hs
  clear hq hs hz
  go_enter Try.func15, Try.ntmps15
  go_wp2_with (first
    | (go_at_call 22; refine KP.mono ?_; rintro e w1 ⟨rfl, hw⟩; replace hw := hw.symm; subst hw)
    | (go_at_call 11; refine (onnew_ok S w (by omega) (by omega)).mono ?_; rintro e w1 ⟨ob, hb, X, rb, Y, rfl, hO, hX, hY, hob, hF⟩; have c0 := hO.cells.1; have HO : Hid (OnAt w.heap.size w1 ob hb rb S 0 1 (fun _ => 0) (fun _ => false) 0 (fun _ => 0)) := hide ⟨X, Y, _, hO, hX, hY, hob, fun g hg => by cases hg⟩; have HF := hide hF; clear hO hX hY hob hF))
  go_loopw [7] (fun a7 wr => ∃ (j : Nat) (tm : Int) (n : Nat) (f : Nat → Nat) (st : Nat → Bool) (m : Nat) (o : Nat → Nat), j ≤ N ∧ a7 = .int .i64 (j : Int) ∧ OnAt w.heap.size wr ob hb rb S tm n f st m o ∧ Fr (fun k => w.heap.size ≤ k) w wr ∧ 0 ≤ tm ∧ tm ≤ (j : Int) ∧ m ≤ L + 1 + n ∧ Kp f st m o) (fun a7 _ => N - (intOf a7).toNat)
  case atStart => exact ⟨0, 0, 1, _, _, 0, _, Nat.zero_le _, rfl, HO.out, HF.out.some, by omega, by omega, by omega, Kp.zero⟩
  case round =>
    obtain ⟨j, tm, n, f, st, m, o, hj, rfl, hO, hF, ht1, ht2, hm, hi⟩ := hrel
    clear HO HF c0
    by_cases hlt : j < N
    · obtain ⟨b, off, rfl, hops⟩ : ∃ b off, ao = some ⟨b, off, none⟩ ∧ _ := by
        rcases HS.out with e | e
        · omega
        · exact e
      obtain ⟨k, a, b', c, y, bo, vR, l, g, hv, hl, e0, e1, e2, e3, e4, e5, e6⟩ := hops j hlt
      have hbl := World.block_lt_of_cell? _ _ e0
      have nb : ¬ (w.heap.size ≤ b) := Nat.not_le.2 hbl
      replace e0 := (hF.cell hbl nb).trans e0
      replace e1 := (hF.cell hbl nb).trans e1
      replace e2 := (hF.cell hbl nb).trans e2
      replace e3 := (hF.cell hbl nb).trans e3
      replace e4 := (hF.cell hbl nb).trans e4
      replace e5 := (hF.cell hbl nb).trans e5
      replace e6 := (hF.cell hbl nb).trans e6
      have hgood : Good n f st ∧ (∀ i, i < n → f i < 18446744073709551616) ∧ n ≤ S := by
        obtain ⟨X, Y, vO, h, _⟩ := hO
        exact ⟨h.H.good.1, h.H.good.2.1, h.H.good.2.2.1⟩
      have KD := do_any w.heap.size wr ob hb rb S tm n f st m o k a b' c y bo vR l g hO hF.size (hv.fr hF) ht1 (by omega) (by omega) (by omega)
      have HD := hide KD
      have HG := hide hgood
      have HF := hide hF
      have Hi := hide hi
      have Hm := hide hm
      have Hl := hide hl
      have hjI : (j : Int) < (N : Int) := by omega
      clear KD hgood hF hi hm hl hops hv hO HS hbl nb
      go_wp2_with (go_at_call 13; refine HD.out.mono ?_; rintro e w2 ⟨rfl, tm2, n2, f2, st2, m2, o2, hO2, hF2, hD2⟩)
      have hlen := doStep_len hD2 Hl.out Hm.out
      refine ⟨⟨j + 1, tm2, n2, f2, st2, m2, o2, by omega, by go_num, hO2, HF.out.on hF2, by omega, by omega, hlen.1, Kp.step HG.out.1 HG.out.2.1 (by have := HG.out.2.2; omega) Hi.out hD2⟩, ?_⟩
      simp [intOf]
      omega
    · have hjN : N = j := by omega
      subst hjN
      go_wp2
      go_ret
      exact ⟨ob, hb, rb, S, tm, n, f, st, m, o, rfl, hO, hF, ht1, ht2, hm, hS1, hS2, hi⟩

end Go.Proofs.Ytfeofdeffmnbkaa
