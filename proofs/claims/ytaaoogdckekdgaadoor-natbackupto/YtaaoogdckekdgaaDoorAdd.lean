/-
  What is proved here: nat.Add answers the canonical limbs of the sum of all that it is handed, in new memory, for fewer than 2^32 lists that fit a machine.
-/
import Derived.Test.YtaaoogdckekdgaaDoorAddInto
import Derived.Test.YtaaoogdckekdgaaDoorMem
namespace Go.Proofs.YtaaoogdckekdgaaDoor
open Go Go.RowKit

/-- m slices, read from an address on. -/
def Rds (w : World) (mo : Option Addr) (m : Nat) (vs : Nat → Value) : Prop :=
  m = 0 ∨ ∃ b off, mo = some ⟨b, off, none⟩ ∧ ∀ i, i < m → w.cell? ⟨b, off + i, none⟩ = some (vs i)

theorem Rds.below {B : Nat} {w w' : World} {mo : Option Addr} {m : Nat} {vs : Nat → Value} (h : Rds w mo m vs) (hb : Below B w w') (hB : w.heap.size ≤ B) : Rds w' mo m vs := by
  rcases h with h | ⟨b, off, rfl, hc⟩
  · exact .inl h
  · by_cases hn : m = 0
    · exact .inl hn
    · have hl : b < w.heap.size := World.block_lt_of_cell? w _ (hc 0 (by omega))
      exact .inr ⟨b, off, rfl, fun i hi => (hb.cell (p := ⟨b, off + i, none⟩) (by show b < B; omega)).trans (hc i hi)⟩

/-- The sum of the first k lists' numbers. -/
def total (ns : Nat → Nat) (fs : Nat → Nat → Nat) : Nat → Nat
  | 0 => 0
  | k + 1 => total ns fs k + num 4294967296 (fs k) (ns k)

theorem num_lt_pow {f : Nat → Nat} {n L : Nat} (h : ∀ i, i < n → f i < 4294967296) (hL : n ≤ L) : num 4294967296 f n < 4294967296 ^ L :=
  Nat.lt_of_lt_of_le (num_lt h) (Nat.pow_le_pow_right (by decide) hL)

/-- Adding a list to a whole block of limbs, where nothing is carried out of it. -/
theorem addWhole (g N m capb : Nat) (f h : Nat → Nat) (bo : Option Addr) (w : World)
    (hrow : RowAt .u32 41 w g N N f) (hb : Rd .u32 w bo m h) (hsep : ∀ a, bo = some a → m ≠ 0 → a.block ≠ g) (hmn : m ≤ N) (hn : N ≤ 9223372036854775807)
    (hf : ∀ i, i < N → f i < 4294967296) (hh : ∀ i, i < m → h i < 4294967296) (hfit : num 4294967296 f N + num 4294967296 h m < 4294967296 ^ N) :
    Calls Tryd.prog 38 #[.slice (some ⟨g, 0, none⟩) N N, .slice bo m capb] w fun e w' => e = .returned (.tuple #[]) ∧ ∃ f', RowAt .u32 41 w' g N N f' ∧ Only g w w' ∧ (∀ i, i < N → f' i < 4294967296) ∧ num 4294967296 f' N = num 4294967296 f N + num 4294967296 h m := by
  refine (addInto_any g 0 N N N m N capb f h bo w hrow (by omega) hb hsep hmn hn (by simpa using hf) hh).mono ?_
  rintro e w' ⟨rfl, f', c, h1, h2, h3⟩
  obtain ⟨h4, h5, h6, h7⟩ := h3
  simp only [Nat.zero_add] at h6
  have e0 : ∀ q : Nat → Nat, (fun i => q (0 + i)) = q := fun q => by funext i; rw [Nat.zero_add]
  rw [num_cut hmn, e0, e0] at h7
  refine ⟨rfl, f', h1, h2, h6, ?_⟩
  by_cases hc : c = 0
  · subst hc; omega
  · have : 1 * 4294967296 ^ N ≤ c * 4294967296 ^ N := Nat.mul_le_mul_right _ (by omega)
    omega

theorem Rd.apart {k : IntKind} {w : World} {ao : Option Addr} {n : Nat} {f : Nat → Nat} {g : Nat} (h : Rd k w ao n f) (hg : w.heap.size ≤ g) : ∀ a, ao = some a → n ≠ 0 → a.block ≠ g := by
  rintro a rfl hn
  rcases h with h | ⟨b, off, e, hc⟩
  · exact absurd h hn
  · cases e
    have := Rd.lt hc (by omega)
    show b ≠ g
    omega

theorem total_lt {ns : Nat → Nat} {fs : Nat → Nat → Nat} {k L : Nat} (hfs : ∀ j, j < k → ∀ i, i < ns j → fs j i < 4294967296) (hL : ∀ j, j < k → ns j ≤ L) : total ns fs k ≤ k * 4294967296 ^ L := by
  induction k with
  | zero => simp [total]
  | succ k ih =>
    have h1 := ih (fun j hj => hfs j (by omega)) (fun j hj => hL j (by omega))
    have h2 := num_lt_pow (hfs k (by omega)) (hL k (by omega))
    rw [total, Nat.add_mul, Nat.one_mul]
    omega

/-- So few numbers of L limbs: their sum has at most one limb more. -/
theorem sum_fits {x k L : Nat} (h : x < (k + 1) * 4294967296 ^ L) (hk : k + 1 ≤ 4294967296) : x < 4294967296 ^ (L + 1) := by
  have h1 : (k + 1) * 4294967296 ^ L ≤ 4294967296 * 4294967296 ^ L := Nat.mul_le_mul_right _ hk
  rw [Nat.pow_succ, Nat.mul_comm _ 4294967296]
  omega

theorem can_of_trim {f : Nat → Nat} {n m : Nat} (hf : ∀ i, i < n → f i < 4294967296) (hm : m ≤ n) (ht : m = 0 ∨ f (m - 1) ≠ 0) : Can 4294967296 f m := ⟨fun i hi => hf i (by omega), ht⟩

theorem RowAt.own {k : IntKind} {E : TypeId} {w : World} {base g N n : Nat} {f : Nat → Nat} (h : RowAt k E w g N n f) (hb : base ≤ g) (hN : N ≤ 9223372036854775807) : Own k E w base (.slice (some ⟨g, 0, none⟩) n N) n f :=
  .inr ⟨g, N, rfl, hb, hN, h⟩

set_option maxHeartbeats 2000000 in
theorem add_any (v u : Value) (n m k capm M : Nat) (f q : Nat → Nat) (mo : Option Addr) (vs : Nat → Value) (ns : Nat → Nat) (fs : Nat → Nat → Nat) (w : World)
    (hv : Sl .u32 w v n f) (hu : Sl .u32 w u m q) (hm : Rds w mo k vs) (hs : ∀ i, i < k → Sl .u32 w (vs i) (ns i) (fs i))
    (hf : ∀ i, i < n → f i < 4294967296) (hh : ∀ i, i < m → q i < 4294967296) (hfs : ∀ j, j < k → ∀ i, i < ns j → fs j i < 4294967296)
    (hn : n ≤ M) (hmM : m ≤ M) (hns : ∀ j, j < k → ns j ≤ M) (hM : 4 * (M + 1) ≤ 281474976710656) (hk : k + 2 ≤ 4294967296) :
    Calls Tryd.prog 16 #[v, u, .slice mo k capm] w fun e w' => ∃ v' n' f', e = .returned v' ∧ Own .u32 41 w' w.heap.size v' n' f' ∧ Below w.heap.size w w' ∧ Can 4294967296 f' n' ∧ n' ≤ M + 1 ∧
      num 4294967296 f' n' = num 4294967296 f n + num 4294967296 q m + total ns fs k := by
  obtain ⟨ao, cap, rfl, h1, h2, h0, h3⟩ := hv
  obtain ⟨bo, capb, rfl, g1, g2, g0, g3⟩ := hu
  clear h0 g0
  go_enter Tryd.func16, Tryd.ntmps16
  go_wp2_with fail
  all_goals
    go_loop [7, 20] (fun l t => ∃ j L : Nat, j ≤ k ∧ t = .int .i64 j ∧ l = .int .i64 L ∧ n ≤ L ∧ m ≤ L ∧ L ≤ M ∧ ∀ i, i < j → ns i ≤ L) (fun _ t => k - (intOf t).toNat)
    case atStart => exact ⟨0, _, Nat.zero_le _, rfl, rfl, by omega, by omega, by omega, fun i hi => by omega⟩
    case round =>
      obtain ⟨j, L, hj, rfl, rfl, l1, l2, l3, l4⟩ := hrel
      by_cases hjk : j < k
      · rcases hm with hm | ⟨b, off, rfl, hc⟩
        · omega
        obtain ⟨ao', cap', e', p1, p2, p0, p3⟩ := hs j hjk
        have hx := hc j hjk
        rw [e'] at hx
        have hnj := hns j hjk
        have l4' := hide l4
        clear hc hs hfs l4 e' hns hf hh p0
        generalize hq : ns j = nj at *
        have HQ := hide hq
        clear hq
        by_cases hlt : L < nj
        · go_wp2
          go_round
          case rel => exact ⟨j + 1, nj, by omega, by go_num, by first | rfl | simp [hlt], by omega, by omega, by omega, fun i hi => by
              by_cases e : i = j
              · rw [e, unhide HQ]; omega
              · have := unhide l4' i (by omega); omega⟩
          case measure => simp [intOf]; omega
        · go_wp2
          go_round
          case rel => exact ⟨j + 1, L, by omega, by go_num, by first | rfl | simp [hlt], by omega, by omega, by omega, fun i hi => by
              by_cases e : i = j
              · rw [e, unhide HQ]; omega
              · have := unhide l4' i (by omega); omega⟩
          case measure => simp [intOf]; omega
      · have hjk' : j = k := by omega
        subst hjk'
        have sepA := h3.apart (Nat.le_refl _)
        have sepB := g3.apart (Nat.le_refl _)
        have na := num_lt_pow hf l1
        have nb := num_lt_pow hh l2
        have z0 : num 4294967296 (fun _ => 0) (L + 1) = 0 := by rw [num_tail (n := 0) (by omega) (fun _ _ _ => rfl)]; rfl
        have fit1 : num 4294967296 (fun _ => 0) (L + 1) + num 4294967296 f n < 4294967296 ^ (L + 1) := by
          rw [z0]; exact sum_fits (k := 0) (by omega) (by omega)
        have fit2 : num 4294967296 f n + num 4294967296 q m < 4294967296 ^ (L + 1) := sum_fits (k := 1) (by omega) (by omega)
        have NA := hide na
        have NB := hide nb
        have Z0 := hide z0
        clear na nb z0
        go_wp2_with (at_make; refine wpList_mkU rfl _ _ rfl .i64 .i64 _ _ (L + 1) rfl rfl (by omega) (by omega) (by omega) ?_; intro w1 hr1 hb1)
        refine (addWhole _ (L + 1) _ _ (fun _ => 0) f _ _ hr1 (h3.below hb1 (Nat.le_refl _)) sepA (by omega) (by omega) (fun _ _ => by decide) hf fit1).mono ?_
        rintro e w2 ⟨rfl, f2, hr2, ho2, hd2, hs2⟩
        have hb2 := Only.below hb1 ho2 (Nat.le_refl _)
        rw [unhide Z0, Nat.zero_add] at hs2
        have HS2 := hide hs2
        clear hb1 hr1 ho2 hs2 fit1
        go_wp2_with fail
        refine (addWhole _ (L + 1) _ _ f2 q _ _ hr2 (g3.below hb2 (Nat.le_refl _)) sepB (by omega) (by omega) hd2 hh (by rw [unhide HS2]; exact fit2)).mono ?_
        rintro e w3 ⟨rfl, f3, hr3, ho3, hd3, hs3⟩
        have hb3 := Only.below hb2 ho3 (Nat.le_refl _)
        rw [unhide HS2] at hs3
        have HS3 := hide hs3
        clear hb2 hr2 ho3 hs3 hd2 fit2
        go_wp2_with fail
        go_loopw [40] (fun t wr => ∃ (i : Nat) (f' : Nat → Nat), i ≤ j ∧ t = .int .i64 i ∧ RowAt .u32 41 wr w.heap.size (L + 1) (L + 1) f' ∧ Below w.heap.size w wr ∧ (∀ i, i < L + 1 → f' i < 4294967296) ∧ num 4294967296 f' (L + 1) = num 4294967296 f n + num 4294967296 q m + total ns fs i) (fun t _ => j - (intOf t).toNat)
        case atStart => exact ⟨0, f3, Nat.zero_le _, rfl, hr3, hb3, hd3, by rw [unhide HS3]; rfl⟩
        case round =>
          obtain ⟨i, f', hi, rfl, hr, hb, hd, hsum⟩ := hrel
          have HSUM := hide hsum
          clear hsum hr3 hb3 hd3 HS3
          by_cases hij : i < j
          · rcases hm with hm | ⟨b, off, rfl, hc⟩
            · omega
            obtain ⟨ao', cap', e', p1, p2, p0, p3⟩ := hs i hij
            have hx := (hb.cell (p := ⟨b, off + i, none⟩) (World.block_lt_of_cell? w _ (hc i hij))).trans (hc i hij)
            rw [e'] at hx
            have hfit : num 4294967296 f' (L + 1) + num 4294967296 (fs i) (ns i) < 4294967296 ^ (L + 1) := by
              have t1 := total_lt (k := i) (fun j hj => hfs j (by omega)) (fun j hj => l4 j (by omega))
              have t2 := num_lt_pow (hfs i hij) (l4 i hij)
              have t3 := unhide NA
              have t4 := unhide NB
              rw [unhide HSUM]
              refine sum_fits (k := i + 2) ?_ (by omega)
              rw [show i + 2 + 1 = i + 3 from rfl, Nat.add_mul]
              omega
            have hni := l4 i hij
            have hfi := hfs i hij
            have psep := p3.apart (Nat.le_refl _)
            clear hc hs hfs l4 e' hns hf hh p0 sepA sepB
            go_wp2_with fail
            refine (addWhole _ (L + 1) _ _ f' (fs i) _ _ hr (p3.below hb (Nat.le_refl _)) psep (by omega) (by omega) hd hfi hfit).mono ?_
            rintro e w4 ⟨rfl, f4, hr4, ho4, hd4, hs4⟩
            have hb4 := Only.below hb ho4 (Nat.le_refl _)
            have HS4 := hide hs4
            clear hs4 hr hb ho4 hd hfit
            go_wp2_with fail
            go_roundw
            case rel => exact ⟨i + 1, f4, by omega, by go_num, hr4, hb4, hd4, by rw [unhide HS4, unhide HSUM, show total ns fs (i + 1) = total ns fs i + num 4294967296 (fs i) (ns i) from rfl]; omega⟩
            case measure => simp [intOf]; omega
          · have hij' : i = j := by omega
            subst hij'
            go_wp2_with fail
            refine (trim_any _ (L + 1) _ f' _ hr.rd (Nat.le_refl _) (by omega)).mono ?_
            rintro e w5 ⟨rfl, m', hm', rfl, hz, ht⟩
            go_wp2_with fail
            go_ret
            exact ⟨_, m', f', rfl, (hr.mono hm').own (Nat.le_refl _) (by omega), hb, can_of_trim hd hm' ht, by omega, by rw [← unhide HSUM, num_tail hm' hz]⟩

end Go.Proofs.YtaaoogdckekdgaaDoor
