/-
  What is proved here: nat.Add answers the canonical limbs of the sum of all that it is handed, in new memory, for fewer than 2^32 lists that fit a machine.
-/
import Derived.Test.YtkmpobmpencefaaDoorAddInto
import Derived.Test.YtkmpobmpencefaaDoorMem
namespace Go.Proofs.YtkmpobmpencefaaDoor
open Go Go.RowKit

/-- m slices, read from an address on. -/
def Rds (w : World) (mo : Option Addr) (m : Nat) (vs : Nat → Value) : Prop :=
  m = 0 ∨ ∃ b off, mo = some ⟨b, off, none⟩ ∧ ∀ i, i < m → w.cell? ⟨b, off + i, none⟩ = some (vs i)

theorem Rds.below {B : Nat} {w w' : World} {mo : Option Addr} {m : Nat} {vs : Nat → Value} (h : Rds w mo m vs) (hb : Below B w w') (hB : w.heap.size ≤ B) : Rds w' mo m vs := by
  rcases h with h | ⟨b, off, rfl, hc⟩
  · exact .inl h
  · by_cases hn : m = 0
    · exact .inl hn
    · have hl : b < w.heap.size := World.block_lt_of_cell? w _ (hc 0 (by omega))
      exact .inr ⟨b, off, rfl, fun i hi => (hb.cell (p := ⟨b, off + i, none⟩) (by show b < B; omega)).trans (hc i hi)⟩

/-- The sum of the first k lists' numbers. -/
def total (ns : Nat → Nat) (fs : Nat → Nat → Nat) : Nat → Nat
  | 0 => 0
  | k + 1 => total ns fs k + num 4294967296 (fs k) (ns k)

theorem num_lt_pow {f : Nat → Nat} {n L : Nat} (h : ∀ i, i < n → f i < 4294967296) (hL : n ≤ L) : num 4294967296 f n < 4294967296 ^ L :=
  Nat.lt_of_lt_of_le (num_lt h) (Nat.pow_le_pow_right (by decide) hL)

theorem num_push {B : Nat} {f : Nat → Nat} {n x : Nat} : num B (upd f n x) (n + 1) = num B f n + x * B ^ n := by
  rw [num_succ, upd_same, num_congr (g := f) (fun i hi => upd_other (by omega))]

set_option maxHeartbeats 1000000 in
/-- Adding a list to a row of limbs of the call's own, with room for what is carried out of it. -/
theorem addGrowing_any (g cap n m capb : Nat) (f h : Nat → Nat) (bo : Option Addr) (w : World)
    (hrow : RowAt .u32 64 w g cap n f) (hb : Rd .u32 w bo m h) (hsep : ∀ a, bo = some a → m ≠ 0 → a.block ≠ g) (hmn : m ≤ n) (hn : cap ≤ 9223372036854775807)
    (hf : ∀ i, i < n → f i < 4294967296) (hh : ∀ i, i < m → h i < 4294967296) (hfit : num 4294967296 f n + num 4294967296 h m < 4294967296 ^ cap) :
    Calls Tryd.prog 116 #[.slice (some ⟨g, 0, none⟩) n cap, .slice bo m capb] w fun e w' => ∃ (n' : Nat) (f' : Nat → Nat), e = .returned (.slice (some ⟨g, 0, none⟩) n' cap) ∧ n ≤ n' ∧ RowAt .u32 64 w' g cap n' f' ∧ Below g w w' ∧ (∀ i, i < n' → f' i < 4294967296) ∧ num 4294967296 f' n' = num 4294967296 f n + num 4294967296 h m := by
  obtain ⟨i, hi, hz0, hz1, hz2⟩ := info_parts infoU
  have hncap := hrow.le
  have hlt := hrow.lt
  have HFIT := hide hfit
  clear hfit
  go_enter Tryd.func116, Tryd.ntmps116
  go_wp2_with fail
  refine (addInto_any g 0 cap n n m cap capb f h bo w hrow (by omega) hb hsep hmn (by omega) (by simpa using hf) hh).mono ?_
  rintro e w1 ⟨f1, c, rfl, hr1, ho1, hrel⟩
  obtain ⟨h4, h5, h6, h7⟩ := hrel
  simp only [Nat.zero_add] at h6
  have e0 : ∀ q : Nat → Nat, (fun i => q (0 + i)) = q := fun q => by funext i; rw [Nat.zero_add]
  rw [num_cut hmn, e0, e0] at h7
  have HE := hide h7
  have hb1 : Below g w w1 := Only.below (Below.refl _ _) ho1 (Nat.le_refl _)
  have HSZ := hide ho1.size
  clear h7 h5 hf hh hsep hb e0 ho1
  by_cases hc : c = 0
  · subst hc
    go_wp2_with fail
    go_ret
    exact ⟨n, f1, rfl, Nat.le_refl _, hr1, hb1, h6, by have := unhide HE; omega⟩
  · obtain rfl : c = 1 := by omega
    have hroom : n + 1 ≤ cap := by
      apply Nat.lt_of_not_le
      intro hle
      have e : n = cap := by omega
      subst e
      have := unhide HE
      have := unhide HFIT
      omega
    have hown1 : Own .u32 64 w1 g (.slice (some ⟨g, 0, none⟩) n cap) n f1 := .inr ⟨g, cap, rfl, Nat.le_refl _, hn, hr1⟩
    have hrow1 := hown1.row
    go_wp2_with (at_builtin; refine wpList_append_fits _ rfl _ _ 24 rfl g 64 i 1 Tryd.underlying24 hi hz1 g n cap _ rfl (hrow1.alloc _) ⟨w1.heap.size, 0, none⟩ 1 1 [.int .u32 1] rfl rfl (cells_one _ _ _) (fun u hu => by simp at hu; subst hu; rfl) hroom ?_; intro w4 hown4 hgrow4)
    go_ret
    have hsz := unhide HSZ
    have hown5 : Own .u32 64 w4 g (.slice (some ⟨g, 0, none⟩) (n + 1) cap) (n + 1) (upd f1 n 1) := Own.of_row hown4 (fun j hj => by
      by_cases e : j = n
      · subst e
        rw [upd_same, List.getElem?_append_right (by rw [cellsOf_length]; exact Nat.le_refl _), cellsOf_length]
        simp
      · rw [upd_other e, List.getElem?_append_left (by rw [cellsOf_length]; omega), cellsOf_get _ _ _ _ (by omega)])
    have hr4 : RowAt .u32 64 w4 g cap (n + 1) (upd f1 n 1) := by
      rcases hown5 with ⟨h, _⟩ | ⟨g', cap', h, _, _, hr⟩
      · cases h
      · cases h
        exact hr
    have hb4 : Below g w w4 := (hb1.alloc (by omega) _).grown hgrow4 (by simp; omega) (fun j hj => by cases hj; exact Nat.le_refl _)
    refine ⟨n + 1, upd f1 n 1, rfl, by omega, hr4, hb4, fun i hi => ?_, ?_⟩
    · by_cases e : i = n
      · rw [e, upd_same]; decide
      · rw [upd_other e]; exact h6 i (by omega)
    · rw [num_push]
      exact unhide HE

theorem Rd.apart {k : IntKind} {w : World} {ao : Option Addr} {n : Nat} {f : Nat → Nat} {g : Nat} (h : Rd k w ao n f) (hg : w.heap.size ≤ g) : ∀ a, ao = some a → n ≠ 0 → a.block ≠ g := by
  rintro a rfl hn
  rcases h with h | ⟨b, off, e, hc⟩
  · exact absurd h hn
  · cases e
    have := Rd.lt hc (by omega)
    show b ≠ g
    omega

theorem total_lt {ns : Nat → Nat} {fs : Nat → Nat → Nat} {k L : Nat} (hfs : ∀ j, j < k → ∀ i, i < ns j → fs j i < 4294967296) (hL : ∀ j, j < k → ns j ≤ L) : total ns fs k ≤ k * 4294967296 ^ L := by
  induction k with
  | zero => simp [total]
  | succ k ih =>
    have h1 := ih (fun j hj => hfs j (by omega)) (fun j hj => hL j (by omega))
    have h2 := num_lt_pow (hfs k (by omega)) (hL k (by omega))
    rw [total, Nat.add_mul, Nat.one_mul]
    omega

/-- So few numbers of L limbs: their sum has at most one limb more. -/
theorem sum_fits {x k L : Nat} (h : x < (k + 1) * 4294967296 ^ L) (hk : k + 1 ≤ 4294967296) : x < 4294967296 ^ (L + 1) := by
  have h1 : (k + 1) * 4294967296 ^ L ≤ 4294967296 * 4294967296 ^ L := Nat.mul_le_mul_right _ hk
  rw [Nat.pow_succ, Nat.mul_comm _ 4294967296]
  omega

theorem can_of_trim {f : Nat → Nat} {n m : Nat} (hf : ∀ i, i < n → f i < 4294967296) (hm : m ≤ n) (ht : m = 0 ∨ f (m - 1) ≠ 0) : Can 4294967296 f m := ⟨fun i hi => hf i (by omega), ht⟩

theorem RowAt.own {k : IntKind} {E : TypeId} {w : World} {base g N n : Nat} {f : Nat → Nat} (h : RowAt k E w g N n f) (hb : base ≤ g) (hN : N ≤ 9223372036854775807) : Own k E w base (.slice (some ⟨g, 0, none⟩) n N) n f :=
  .inr ⟨g, N, rfl, hb, hN, h⟩

set_option maxHeartbeats 2000000 in
theorem add_any (v u : Value) (n m k capm M : Nat) (f q : Nat → Nat) (mo : Option Addr) (vs : Nat → Value) (ns : Nat → Nat) (fs : Nat → Nat → Nat) (w : World)
    (hv : Sl .u32 w v n f) (hu : Sl .u32 w u m q) (hm : Rds w mo k vs) (hs : ∀ i, i < k → Sl .u32 w (vs i) (ns i) (fs i))
    (hf : ∀ i, i < n → f i < 4294967296) (hh : ∀ i, i < m → q i < 4294967296) (hfs : ∀ j, j < k → ∀ i, i < ns j → fs j i < 4294967296)
    (hn : n ≤ M) (hmM : m ≤ M) (hns : ∀ j, j < k → ns j ≤ M) (hM : 4 * (M + 1) ≤ 281474976710656) (hk : k + 2 ≤ 4294967296) :
    Calls Tryd.prog 100 #[v, u, .slice mo k capm] w fun e w' => ∃ v' n' f', e = .returned v' ∧ Own .u32 64 w' w.heap.size v' n' f' ∧ Below w.heap.size w w' ∧ Can 4294967296 f' n' ∧ n' ≤ M + 1 ∧
      num 4294967296 f' n' = num 4294967296 f n + num 4294967296 q m + total ns fs k := by
  obtain ⟨ao, cap, rfl, h1, h2, h0, h3⟩ := hv
  obtain ⟨bo, capb, rfl, g1, g2, g0, g3⟩ := hu
  clear h0 g0
  go_enter Tryd.func100, Tryd.ntmps100
  go_wp2_with fail
  all_goals
    go_loop [7, 20] (fun l t => ∃ j L : Nat, j ≤ k ∧ t = .int .i64 j ∧ l = .int .i64 L ∧ n ≤ L ∧ m ≤ L ∧ L ≤ M ∧ ∀ i, i < j → ns i ≤ L) (fun _ t => k - (intOf t).toNat)
    case atStart => exact ⟨0, _, Nat.zero_le _, rfl, rfl, by omega, by omega, by omega, fun i hi => by omega⟩
    case round =>
      obtain ⟨j, L, hj, rfl, rfl, l1, l2, l3, l4⟩ := hrel
      by_cases hjk : j < k
      · rcases hm with hm | ⟨b, off, rfl, hc⟩
        · omega
        obtain ⟨ao', cap', e', p1, p2, p0, p3⟩ := hs j hjk
        have hx := hc j hjk
        rw [e'] at hx
        have hnj := hns j hjk
        have l4' := hide l4
        clear hc hs hfs l4 e' hns hf hh p0
        generalize hq : ns j = nj at *
        have HQ := hide hq
        clear hq
        by_cases hlt : L < nj
        · go_wp2
          go_round
          case rel => exact ⟨j + 1, nj, by omega, by go_num, by first | rfl | simp [hlt], by omega, by omega, by omega, fun i hi => by
              by_cases e : i = j
              · rw [e, unhide HQ]; omega
              · have := unhide l4' i (by omega); omega⟩
          case measure => simp [intOf]; omega
        · go_wp2
          go_round
          case rel => exact ⟨j + 1, L, by omega, by go_num, by first | rfl | simp [hlt], by omega, by omega, by omega, fun i hi => by
              by_cases e : i = j
              · rw [e, unhide HQ]; omega
              · have := unhide l4' i (by omega); omega⟩
          case measure => simp [intOf]; omega
      · have hjk' : j = k := by omega
        subst hjk'
        have sepA := h3.apart (Nat.le_refl _)
        have sepB := g3.apart (Nat.le_refl _)
        have na := num_lt_pow hf l1
        have nb := num_lt_pow hh l2
        have z0 : num 4294967296 (fun _ => 0) L = 0 := by rw [num_tail (n := 0) (by omega) (fun _ _ _ => rfl)]; rfl
        have fit1 : num 4294967296 (fun _ => 0) L + num 4294967296 f n < 4294967296 ^ (L + 1) := by
          rw [z0]; exact sum_fits (k := 0) (by omega) (by omega)
        have fit2 : num 4294967296 f n + num 4294967296 q m < 4294967296 ^ (L + 1) := sum_fits (k := 1) (by omega) (by omega)
        have NA := hide na
        have NB := hide nb
        have Z0 := hide z0
        clear na nb z0
        go_wp2_with (at_make; refine wpList_mkUc rfl _ _ rfl .i64 .i64 _ _ L (L + 1) rfl rfl (by omega) (by omega) (by omega) (by omega) ?_; intro w1 hr1 hb1)
        refine (addGrowing_any _ (L + 1) L _ _ (fun _ => 0) f _ _ hr1 (h3.below hb1 (Nat.le_refl _)) sepA (by omega) (by omega) (fun _ _ => by decide) hf fit1).mono ?_
        rintro e w2 ⟨n2, f2, rfl, hn2, hr2, ho2, hd2, hs2⟩
        have hb2 := hb1.trans ho2
        have hl2 := hr2.le
        rw [unhide Z0, Nat.zero_add] at hs2
        have HS2 := hide hs2
        clear hb1 hr1 ho2 hs2 fit1
        go_wp2_with fail
        refine (addGrowing_any _ (L + 1) n2 _ _ f2 q _ _ hr2 (g3.below hb2 (Nat.le_refl _)) sepB (by omega) (by omega) hd2 hh (by rw [unhide HS2]; exact fit2)).mono ?_
        rintro e w3 ⟨n3, f3, rfl, hn3, hr3, ho3, hd3, hs3⟩
        have hb3 := hb2.trans ho3
        have hl3 := hr3.le
        rw [unhide HS2] at hs3
        have HS3 := hide hs3
        clear hb2 hr2 ho3 hs3 hd2 fit2
        go_wp2_with fail
        go_loopw [10, 41] (fun s t wr => ∃ (i ln : Nat) (f' : Nat → Nat), i ≤ j ∧ t = .int .i64 i ∧ s = .slice (some ⟨w.heap.size, 0, none⟩) ln (L + 1) ∧ L ≤ ln ∧ RowAt .u32 64 wr w.heap.size (L + 1) ln f' ∧ Below w.heap.size w wr ∧ (∀ i, i < ln → f' i < 4294967296) ∧ num 4294967296 f' ln = num 4294967296 f n + num 4294967296 q m + total ns fs i) (fun _ t _ => j - (intOf t).toNat)
        case atStart => exact ⟨0, n3, f3, Nat.zero_le _, rfl, rfl, by omega, hr3, hb3, hd3, by rw [unhide HS3]; rfl⟩
        case round =>
          obtain ⟨i, ln, f', hi, rfl, rfl, hLn, hr, hb, hd, hsum⟩ := hrel
          have HSUM := hide hsum
          have hln := hr.le
          clear hsum hr3 hb3 hd3 HS3
          by_cases hij : i < j
          · rcases hm with hm | ⟨b, off, rfl, hc⟩
            · omega
            obtain ⟨ao', cap', e', p1, p2, p0, p3⟩ := hs i hij
            have hx := (hb.cell (p := ⟨b, off + i, none⟩) (World.block_lt_of_cell? w _ (hc i hij))).trans (hc i hij)
            rw [e'] at hx
            have hfit : num 4294967296 f' ln + num 4294967296 (fs i) (ns i) < 4294967296 ^ (L + 1) := by
              have t1 := total_lt (k := i) (fun j hj => hfs j (by omega)) (fun j hj => l4 j (by omega))
              have t2 := num_lt_pow (hfs i hij) (l4 i hij)
              have t3 := unhide NA
              have t4 := unhide NB
              rw [unhide HSUM]
              refine sum_fits (k := i + 2) ?_ (by omega)
              rw [show i + 2 + 1 = i + 3 from rfl, Nat.add_mul]
              omega
            have hni := l4 i hij
            have hfi := hfs i hij
            have psep := p3.apart (Nat.le_refl _)
            clear hc hs hfs l4 e' hns hf hh p0 sepA sepB
            go_wp2_with fail
            refine (addGrowing_any _ (L + 1) ln _ _ f' (fs i) _ _ hr (p3.below hb (Nat.le_refl _)) psep (by omega) (by omega) hd hfi hfit).mono ?_
            rintro e w4 ⟨n4, f4, rfl, hn4, hr4, ho4, hd4, hs4⟩
            have hb4 := hb.trans ho4
            have HS4 := hide hs4
            clear hs4 hr hb ho4 hd hfit
            go_wp2_with fail
            go_roundw
            case rel => exact ⟨i + 1, n4, f4, by omega, by go_num, rfl, by omega, hr4, hb4, hd4, by rw [unhide HS4, unhide HSUM, show total ns fs (i + 1) = total ns fs i + num 4294967296 (fs i) (ns i) from rfl]; omega⟩
            case measure => simp [intOf]; omega
          · have hij' : i = j := by omega
            subst hij'
            go_wp2_with fail
            refine (trim_any _ ln _ f' _ hr.rd hln (by omega)).mono ?_
            rintro e w5 ⟨rfl, m', hm', rfl, hz, ht⟩
            go_wp2_with fail
            go_ret
            exact ⟨_, m', f', rfl, (hr.mono hm').own (Nat.le_refl _) (by omega), hb, can_of_trim hd hm' ht, by omega, by rw [← unhide HSUM, num_tail hm' hz]⟩

end Go.Proofs.YtkmpobmpencefaaDoor
