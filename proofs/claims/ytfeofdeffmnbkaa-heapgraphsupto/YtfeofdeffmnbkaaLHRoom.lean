/-
  What is proved here: HeapRoom answers true for every number and every list of numbers, and turns nothing that was there.
-/
import Derived.Test.YtfeofdeffmnbkaaHHeap6
namespace Go.Proofs.Ytfeofdeffmnbkaa
open Go Go.RowKit

/-- A list of whole numbers that can be read. -/
def SlI (k : IntKind) (w : World) (v : Value) (n : Nat) (g : Nat → Int) : Prop :=
  ∃ ao cap, v = .slice ao n cap ∧ n ≤ cap ∧ cap ≤ 9223372036854775807 ∧ (n = 0 ∨ ∃ b off, ao = some ⟨b, off, none⟩ ∧ ∀ i, i < n → w.cell? ⟨b, off + i, none⟩ = some (.int k (g i)))

theorem tdiv_range (x : Int) (h1 : -9223372036854775808 ≤ x) (h2 : x ≤ 9223372036854775807) : -9223372036854775808 ≤ x.tdiv 9 ∧ x.tdiv 9 ≤ 9223372036854775807 := by
  have := Int.tdiv_mul_add_tmod x 9  -- 9 * (x.tdiv 9) + x.tmod 9
  have h3 : -9 < x.tmod 9 := by
    have := (place_num x 9 (by decide)).2.2
    omega
  have h4 : x.tmod 9 < 9 := by
    have := Int.tmod_lt_of_pos x (show (0 : Int) < 9 by decide)
    exact this
  omega

/-- What a new object tells. -/
theorem laid_tells {f : Nat → Nat} {st : Nat → Bool} {n k t r p : Nat} (hp : p = 4 * n) (hk : k ≤ 63) (ht : t ≤ 1048576) (hr : r ≤ 1048576) :
    hKind (headOf (laid f n (hOf k t r)) (also st n) p) = k ∧ hTag (headOf (laid f n (hOf k t r)) (also st n) p) = t ∧ hRaw (headOf (laid f n (hOf k t r)) (also st n) p) = r := by
  have e : p / 4 = n := by omega
  have h1 : isPtr (also st n) p = true := by
    unfold isPtr
    rw [e, also_new]
    simp
    omega
  rw [headOf_yes h1, e, laid_head]
  exact ⟨hKind_of hk, hTag_of hk ht, hRaw_of hk ht hr⟩

set_option maxRecDepth 20000 in
set_option maxHeartbeats 4000000 in
theorem heapRoom_walk (z : Int) (v : Value) (l : Nat) (g : Nat → Int) (w : World) (hs : SlI .i64 w v l g) (hg : ∀ i, i < l → -9223372036854775808 ≤ g i ∧ g i ≤ 9223372036854775807) (_hl : l ≤ 1152921504606846976) (hz1 : -9223372036854775808 ≤ z) (hz2 : z ≤ 9223372036854775807) :
    Calls Try.prog 6 #[.int .i64 z, v] w fun e w' => e = .returned (.bool true) ∧ Below w.heap.size w w' := by
  obtain ⟨ao, cap, rfl, hc1, hc2, hrd⟩ := hs
  have HG := hide hg
  have HR := hide hrd
  clear hg hrd
  have KP := place_any z 200 w (by decide) (by decide) hz1 hz2
  obtain ⟨N, hN1, hN2, hNI⟩ : ∃ N : Nat, 2 ≤ N ∧ N ≤ 202 ∧ 2 + (((z % ((200 : Nat) : Int)).toNat : Nat) : Int) = (N : Int) := ⟨2 + (z % 200).toNat, by omega, by omega, by simp⟩
  obtain ⟨q, hq⟩ : ∃ q : Nat, (z % ((200 : Nat) : Int)).toNat = q := ⟨_, rfl⟩
  rw [hq] at KP hNI
  clear hq
  go_enter Try.func6, Try.ntmps6
  go_wp2_with (first
    | (go_at_call 22; refine KP.mono ?_; rintro e w1 ⟨rfl, hw⟩; replace hw := hw.symm; subst hw)
    | (go_at_call 23; refine (new_ok N _ hN1 (by omega)).mono ?_; rintro e w1 ⟨rfl, X1, H1, L1, F1⟩))
  go_loopw [8, 9] (fun a8 a9 wr => ∃ (us j : Nat) (X : Nat → Prop) (f : Nat → Nat) (st : Nat → Bool), a8 = .int .i64 us ∧ a9 = .int .i64 j ∧ j ≤ l ∧ us ≤ N ∧ HeapAt wr w.heap.size X N 0 us f st ∧ (∀ k, X k → w.heap.size ≤ k) ∧ Fr (fun k => w.heap.size ≤ k) w wr) (fun _ a9 _ => l - (intOf a9).toNat)
  case atStart => exact ⟨1, 0, X1, _, _, rfl, rfl, Nat.zero_le _, by omega, H1, L1, F1.some⟩
  case round =>
    obtain ⟨us, j, X, f, st, rfl, rfl, hj, hus, HH, HL, HF⟩ := hrel
    clear H1 L1 F1
    by_cases hlt : j < l
    · obtain ⟨gl, gh⟩ := HG.out j hlt
      obtain ⟨b, off, rfl, hcs⟩ : ∃ b off, ao = some ⟨b, off, none⟩ ∧ ∀ i, i < l → w.cell? ⟨b, off + i, none⟩ = some (.int .i64 (g i)) := by
        rcases HR.out with h0 | h0
        · omega
        · exact h0
      have hb0 : b < w.heap.size := World.block_lt_of_cell? w _ (hcs j hlt)
      have hcell := (HF.cell (o := off + j) hb0 (fun e => by omega)).trans (hcs j hlt)
      have htd := tdiv_range _ gl gh
      have K9 := place_any (g j) 9 wr (by decide) (by decide) gl gh
      have K5 := place_any ((g j).tdiv 9) 5 wr (by decide) (by decide) htd.1 htd.2
      obtain ⟨t, ht, htI⟩ : ∃ t : Nat, t < 9 ∧ (g j % ((9 : Nat) : Int)).toNat = t := ⟨_, by omega, rfl⟩
      obtain ⟨r, hr, hrI⟩ : ∃ r : Nat, r < 5 ∧ ((g j).tdiv 9 % ((5 : Nat) : Int)).toNat = r := ⟨_, by omega, rfl⟩
      obtain ⟨k, hk1, hk2, hkI⟩ : ∃ k : Nat, 1 ≤ k ∧ k ≤ 63 ∧ 1 + (j : Int) % 60 = (k : Int) := ⟨1 + j % 60, by omega, by omega, by omega⟩
      obtain ⟨p, hp⟩ : ∃ p : Nat, p = 4 * us := ⟨_, rfl⟩
      have hpI : (us : Int) * 4 = (p : Int) := by omega
      rw [htI] at K9
      rw [hrI] at K5
      clear htI hrI htd hcs
      generalize g j = y at *
      by_cases hroom : us + 1 + t + r ≤ N
      · have hrI : (us : Int) + 1 + (t : Int) + (r : Int) ≤ (N : Int) := by omega
        have KA := alloc_yes wr _ X N 0 us f st k t r HH hk1 hk2 (by omega) (by omega) hroom
        rw [← hp] at KA
        have HP := hide hp
        have hpl : Hid (p < 18446744073709551616) := hide (by omega)
        clear hp
        go_wp2_with (first
          | (go_at_call 22; refine K9.mono ?_; rintro e w1 ⟨rfl, hw⟩; replace hw := hw.symm; subst hw; clear K9)
          | (go_at_call 22; refine K5.mono ?_; rintro e w1 ⟨rfl, hw⟩; replace hw := hw.symm; subst hw)
          | (go_at_call 24; refine KA.mono ?_; rintro e w2 ⟨rfl, X2, H2, G2, F2⟩; have TT := laid_tells (f := f) (st := st) HP.out hk2 (show t ≤ 1048576 by omega) (show r ≤ 1048576 by omega); have KT := heapTagged_any w2 _ X2 N 0 _ _ _ p H2 hpl.out; rw [TT.2.1] at KT; have KR := fun q => heapRaws_any (w2.drewN q) _ X2 N 0 _ _ _ p (H2.drewN q) hpl.out; have KK := fun q => heapKind_any (w2.drewN q) _ X2 N 0 _ _ _ p (H2.drewN q) hpl.out; rw [TT.1] at KK; rw [TT.2.2] at KR; have KU := fun q => used_any (w2.drewN q) _ X2 N 0 _ _ _ (H2.drewN q); have KW := fun q => words_any (w2.drewN q) _ X2 N 0 _ _ _ (H2.drewN q); have HH2 := hide H2; clear TT H2)
          | (go_at_call 25; refine KT.mono ?_; rintro e w3 ⟨rfl, q3, rfl⟩)
          | (go_at_call 26; refine (KR _).mono ?_; rintro e w4 ⟨rfl, q4, rfl⟩)
          | (go_at_call 27; refine (KK _).mono ?_; rintro e w5 ⟨rfl, q5, rfl⟩)
          | (go_at_call 28; refine (KU _).mono ?_; rintro e w6 ⟨rfl, q6, rfl⟩)
          | (go_at_call 17; refine (KW _).mono ?_; rintro e w7 ⟨v7, rfl, O7, F7⟩; obtain ⟨ao7, cap7, rfl⟩ := O7.shape))
        refine ⟨⟨us + 1 + t + r, j + 1, X2, _, _, by go_num, by go_num, by omega, hroom, (HH2.out.drewN _).fr F7 (fun _ _ e => e), G2.ge HL HF.size, (((HF.on (F2.from HL)).drewN _).on F7.some)⟩, ?_⟩
        simp [intOf]
        omega
      · have hrI : (N : Int) < (us : Int) + 1 + (t : Int) + (r : Int) := by omega
        have KA := alloc_full wr _ X N 0 us f st k t r HH hk1 hk2 (by omega) (by omega) (by omega)
        have KU := fun q => used_any (wr.drewN q) _ X N 0 _ _ _ (HH.drewN q)
        have KW := fun q => words_any (wr.drewN q) _ X N 0 _ _ _ (HH.drewN q)
        clear hp
        go_wp2_with (first
          | (go_at_call 22; refine K9.mono ?_; rintro e w1 ⟨rfl, hw⟩; replace hw := hw.symm; subst hw; clear K9)
          | (go_at_call 22; refine K5.mono ?_; rintro e w1 ⟨rfl, hw⟩; replace hw := hw.symm; subst hw)
          | (go_at_call 24; refine KA.mono ?_; rintro e w2 ⟨rfl, q2, rfl⟩)
          | (go_at_call 28; refine (KU _).mono ?_; rintro e w6 ⟨rfl, q6, rfl⟩)
          | (go_at_call 17; refine (KW _).mono ?_; rintro e w7 ⟨v7, rfl, O7, F7⟩; obtain ⟨ao7, cap7, rfl⟩ := O7.shape))
        refine ⟨⟨us, j + 1, X, _, _, rfl, by go_num, by omega, hus, (HH.drewN _).fr F7 (fun _ _ e => e), HL, ((HF.drewN _).on F7.some)⟩, ?_⟩
        simp [intOf]
        omega
    · go_wp2_with (go_at_call 12; refine (awake_any _).mono ?_; rintro e w2 ⟨rfl, F2⟩)
      go_ret
      exact ⟨rfl, (HF.on F2.some).none.below (Nat.le_refl _) (fun _ _ e => e)⟩

end Go.Proofs.Ytfeofdeffmnbkaa
