/-
  What is proved here: the document's own greatest common divisor of any numbers (chapter 2), by values.
-/
import Derived.Test.YtdiacbfdfoeemaaDoorR2Con
import Derived.Test.YtdiacbfdfoeemaaDoorRDiv
import Derived.Test.YtdiacbfdfoeemaaDoorNGcd2
import Derived.Test.YtdiacbfdfoeemaaDoorNLists
namespace Go.Proofs.YtdiacbfdfoeemaaDoor
open Go Go.RowKit

set_option linter.unusedSimpArgs false in
set_option maxRecDepth 4000 in
set_option maxHeartbeats 4000000 in
theorem r2gcd_any (mo : Option Addr) (k cap M : Nat) (vs : Nat → Value) (bs : Nat → Bool) (Xs : Nat → Int) (w : World) (hr : RdN w mo k vs bs) (hs : ∀ j, j < k → RdD (Xs j) M w (.agg #[.bool (bs j), vs j])) (hM : 2 * M + 3 ≤ 10000000000) (hk : k ≤ 1048576) :
    Calls Tryd.prog 39 #[.slice mo k cap] w fun e w' => ∃ v, e = .returned v ∧ NumIn ((gcdN (fun i => (Xs i).natAbs) k : Nat) : Int) M w' w.heap.size w'.heap.size v ∧ Up w w' := by
  have U0 := up_alloc w (.cells #[.bool false, .slice none 0 0] 26)
  have K0 := hide (heap_alloc_new w (.cells #[.bool false, .slice none 0 0] 26))
  have HS := hide hs
  clear hs
  go_enter Tryd.func39, Tryd.ntmps39
  go_wp2_with fail
  go_loopw [3, 4] (fun t3 t4 wr => ∃ (j n : Nat) (f : Nat → Nat), j ≤ k ∧ t4 = .int .i64 j ∧ (∃ ao c, t3 = .slice ao n c) ∧ Up (w.alloc (.cells #[.bool false, .slice none 0 0] 26)) wr ∧ Hid (Sl .u32 wr t3 n f ∧ Can 4294967296 f n ∧ n ≤ M ∧ num 4294967296 f n = gcdN (fun i => (Xs i).natAbs) j)) (fun _ t4 _ => k - (intOf t4).toNat)
  case atStart => exact ⟨0, 0, fun _ => 0, Nat.zero_le _, rfl, ⟨none, 0, rfl⟩, Up.refl _, hide ⟨⟨none, 0, rfl, Nat.le_refl _, by omega, fun _ => rfl, .inl rfl⟩, ⟨fun i hi => by omega, .inl rfl⟩, Nat.zero_le _, rfl⟩⟩
  case round =>
    obtain ⟨j, n, f, hj, rfl, ⟨ao3, c3, rfl⟩, up, HH⟩ := hrel
    by_cases hjk : j < k
    · rcases hr with hr | ⟨bl, off, rfl, hc⟩
      · omega
      have HSJ := hide (unhide HS j hjk)
      have hx0 := (hc j hjk).1
      have hx1 := (hc j hjk).2
      obtain ⟨bj, aoj, nj, capj, ej⟩ := (unhide HSJ).agg
      have ej' : bs j = bj ∧ vs j = .slice aoj nj capj := by
        cases hvs : vs j
        all_goals simp_all
      rw [ej'.1, ej'.2] at HSJ
      rw [ej'.1] at hx0
      rw [ej'.2] at hx1
      have hbl : bl < w.heap.size := World.block_lt_of_cell? w _ hx0
      have hc0 : wr.cell? ⟨bl, off + j * 2, none⟩ = some (.bool bj) := (Below.cell (U0.tr up) (p := ⟨bl, off + j * 2, none⟩) hbl).trans hx0
      have hc1 : wr.cell? ⟨bl, off + j * 2 + 1, none⟩ = some (.slice aoj nj capj) := (Below.cell (U0.tr up) (p := ⟨bl, off + j * 2 + 1, none⟩) hbl).trans hx1
      clear hc ej ej' hx0 hx1
      go_wp2_with fail
      refine (r2canon_rd ((unhide HSJ).up (U0.tr up)) (by omega)).mono ?_
      rintro e w1 ⟨v1, rfl, ⟨b1, n1, f1, ⟨u, rfl, o1⟩, c1, l1, s1⟩, u1⟩
      obtain ⟨ao1, cap1, rfl, -⟩ := id o1.sl
      have HO := hide (And.intro o1.sl (And.intro c1 (And.intro l1 (sgn_natAbs s1))))
      have UP1 := hide (up.tr u1)
      have U1 := hide u1
      have hfd : (Instr.field 26 (.agg #[.bool b1, .slice ao1 n1 cap1]) 1).run Tryd.prog w1 = .ok (.slice ao1 n1 cap1) w1 := by kernel_rfl
      clear o1 c1 l1 s1 hc0 hc1 up u1
      go_wp2_with fail
      clear hfd
      go_loopg [3, 5] (num 4294967296 f1 n1) (fun q t3 t5 wr2 => ∃ (n2 m2 : Nat) (f2 h2 : Nat → Nat), Aside (Sl .u32 wr2 t3 n2 f2 ∧ Sl .u32 wr2 t5 m2 h2 ∧ Can 4294967296 f2 n2 ∧ Can 4294967296 h2 m2 ∧ n2 ≤ M ∧ m2 ≤ M ∧ Up (w.alloc (.cells #[.bool false, .slice none 0 0] 26)) wr2 ∧ q = num 4294967296 h2 m2 ∧ Nat.gcd (num 4294967296 f2 n2) (num 4294967296 h2 m2) = gcdN (fun i => (Xs i).natAbs) (j + 1)))
      case atStart =>
        refine ⟨n, n1, f, f1, ⟨(unhide HH).1.up (unhide U1), (unhide HO).1, (unhide HH).2.1, (unhide HO).2.1.1, (unhide HH).2.2.1, (unhide HO).2.2.1, unhide UP1, rfl, ?_⟩⟩
        rw [(unhide HH).2.2.2, (unhide HO).2.2.2]
        rfl
      case round =>
        obtain ⟨n2, m2, f2, h2, A⟩ := hrel
        obtain ⟨ao4, cap4, rfl, -⟩ := id A.out.1
        obtain ⟨ao5, cap5, rfl, -⟩ := id A.out.2.1
        by_cases hm0 : m2 = 0
        · subst hm0
          go_wp2_with fail
          go_roundw
          case rel =>
            obtain ⟨a1, a2, a3, a4, a5, a6, a7, a8, a9⟩ := A.out
            refine ⟨j + 1, n2, f2, by omega, by go_num, ⟨_, _, rfl⟩, a7, hide ⟨a1, a3, a5, ?_⟩⟩
            rw [← a9]
            simp [num]
          case measure => simp [intOf]; omega
        · have hm1 : 0 < m2 := by omega
          go_wp2_with fail
          refine (rDiv_any _ _ n2 m2 f2 h2 _ A.out.1 A.out.2.1 A.out.2.2.1.1 A.out.2.2.2.1.1 (by have := A.out.2.2.2.2.1; omega) (by have := A.out.2.2.2.2.2.1; omega) (num_pos A.out.2.2.2.1 hm0)).mono ?_
          rintro e w4 H
          obtain ⟨nq, nr, fq, fr, vq, vr, rfl, oq, or, u4, cq, cr, sq, sr⟩ := unhide H
          have B : Aside (Sl .u32 w4 vr nr fr ∧ Can 4294967296 fr nr ∧ num 4294967296 fr nr = num 4294967296 f2 n2 % num 4294967296 h2 m2 ∧ Up _ w4) := ⟨or.sl, cr, sr, u4⟩
          obtain ⟨aoq, capq, rfl, -⟩ := id oq.sl
          obtain ⟨aor, capr, rfl, -⟩ := id or.sl
          clear H oq or u4 cq cr sq sr
          go_wp2_with fail
          go_roundg (num 4294967296 fr nr)
          case measure =>
            rw [B.out.2.2.1, A.out.2.2.2.2.2.2.2.1]
            exact Nat.mod_lt _ (num_pos A.out.2.2.2.1 hm0)
          case rel =>
            obtain ⟨a1, a2, a3, a4, a5, a6, a7, a8, a9⟩ := A.out
            obtain ⟨b1, b2, b3, b4⟩ := B.out
            have lr : nr ≤ M := can_pow (by decide) b2 (by
              have h1 := num_lt_pow a4.1 a6
              have h2 := Nat.mod_lt (num 4294967296 f2 n2) (num_pos a4 hm0)
              omega)
            refine ⟨m2, nr, h2, fr, ⟨a2.up b4, b1, a4, b2, a6, lr, a7.tr b4, rfl, ?_⟩⟩
            rw [b3, ← a9, Nat.gcd_comm (num 4294967296 f2 n2), Nat.gcd_rec (num 4294967296 h2 m2) (num 4294967296 f2 n2), Nat.gcd_comm]
    · obtain rfl : j = k := by omega
      go_wp2_with fail
      refine (r2of_any false _ n f _ (unhide HH).1 (unhide HH).2.1.1 (by have := (unhide HH).2.2.1; omega)).mono ?_
      rintro e w2 ⟨a2, b2, n2, f2, rfl, ⟨v2, rfl, o2⟩, u2, c2, l2, s2⟩
      have HS2 := hide s2
      clear s2
      obtain ⟨ao2, cap2, rfl, -⟩ := id o2.sl
      have T2 := Up.blk (up.tr u2) (unhide K0)
      have zz := up.size
      obtain ⟨d0, d1, g0, g1, -⟩ := cells2 T2
      obtain ⟨e0, e1, -⟩ := cells2 (sto_two T2 (.bool b2) (.slice ao2 n2 cap2)).2
      go_wp2_with fail
      refine bodyPost_ret (by simp [results, Tryd.results39, go_sem, e0, e1]; rfl) rfl ?_
      refine ⟨_, rfl, ⟨b2, n2, f2, CopIn.of ⟨_, rfl, (o2.set2 (by simp at zz; omega)).mono (by simp at zz; omega)⟩, c2, by have := (unhide HH).2.2.1; omega, ?_⟩, Up.set2 (U0.tr (up.tr u2)) (Nat.le_refl _)⟩
      rw [unhide HS2, (unhide HH).2.2.2]
      rfl
theorem gcdn_rd (mo : Option Addr) (k cap M : Nat) (vs : Nat → Value) (bs : Nat → Bool) (Xs : Nat → Int) (w : World) (hr : RdN w mo k vs bs) (hs : ∀ j, j < k → RdD (Xs j) M w (.agg #[.bool (bs j), vs j])) (hM : 4 * (M + 1) ≤ 281474976710656) (hk : 32 * k ≤ 281474976710656) :
    Calls Tryd.prog 38 #[.slice mo k cap] w fun e w' => ∃ v, e = .returned v ∧ NumIn ((gcdN (fun i => (Xs i).natAbs) k : Nat) : Int) M w' w.heap.size w'.heap.size v ∧ Up w w' := by
  obtain ⟨ns, fs, hl, hx⟩ := lsts_rd hs
  refine (gcdz_any mo k cap M vs bs ns fs w hr hl hM hk).mono ?_
  rintro e w' H
  obtain ⟨a, b, n, f, rfl, o, u, c, l, s⟩ := H
  exact ⟨a, rfl, ⟨b, n, f, CopIn.of o, c, l, by rw [s, gcdN_congr (fun i hi => sgn_natAbs (hx i hi))]⟩, u⟩

end Go.Proofs.YtdiacbfdfoeemaaDoor
