/-
  What is proved here: the document's own Of (chapter 2) answers the number of a sign and a size, canonical. the document's own Canon, Neg and Int (chapter 2), by values. the document's own Int (chapter 2) answers the number that it is handed.
-/
import Derived.Test.YtjbocfhmfidjjaaDoorNCon
import Derived.Test.YtjbocfhmfidjjaaDoorRef5
namespace Go.Proofs.YtjbocfhmfidjjaaDoor
open Go Go.RowKit

theorem rds_oneE (w : World) (x : Value) (E : TypeId) (g : Nat) (hg : g = w.heap.size) : Rds (w.alloc (.cells #[x] E)) (some ⟨g, 0, none⟩) 1 (fun _ => x) := by
  subst hg
  refine .inr ⟨w.heap.size, 0, rfl, fun i hi => ?_⟩
  obtain rfl : i = 0 := (by omega)
  rw [cell_of_row _ _ _ _ _ _ (heap_alloc_new w _)]
  rfl

/-- A canonical row is not longer than another that says the same. -/
theorem can_le {B : Nat} (hB : 0 < B) {f g : Nat → Nat} {n m : Nat} (hf : Can B f n) (hg : ∀ i, i < m → g i < B) (h : num B f n = num B g m) : n ≤ m := by
  apply Nat.le_of_not_lt
  intro hlt
  obtain ⟨k, rfl⟩ : ∃ k, n = k + 1 := ⟨n - 1, by omega⟩
  have h1 := num_lt hg
  have h2 : B ^ m ≤ B ^ k := Nat.pow_le_pow_right hB (by omega)
  have h3 : f k ≠ 0 := by
    rcases hf.2 with h0 | h0
    · omega
    · simpa using h0
  have h4 : num B f (k + 1) = num B f k + f k * B ^ k := rfl
  have h5 : 1 * B ^ k ≤ f k * B ^ k := Nat.mul_le_mul_right _ (by omega)
  omega

set_option maxRecDepth 4000 in
set_option maxHeartbeats 1000000 in
theorem r2of_any (b : Bool) (v : Value) (n : Nat) (f : Nat → Nat) (w : World) (hs : Sl .u32 w v n f) (hd : ∀ i, i < n → f i < 4294967296) (hn : 2 * n + 1 ≤ 10000000000) :
    Calls Tryd.prog 54 #[.bool b, v] w fun e w' => ∃ a b' m f', e = .returned a ∧ OwnN w' w.heap.size a b' m f' ∧ Up w w' ∧ CanZ b' f' m ∧ m ≤ n ∧ sgn b' (num 4294967296 f' m) = sgn b (num 4294967296 f n) := by
  obtain ⟨ao, cap, rfl, -⟩ := id hs
  have fin : ∀ (m : Nat) (f' : Nat → Nat), Can 4294967296 f' m → num 4294967296 f' m = total (fun _ => n) (fun _ => f) 1 → m ≤ n ∧ num 4294967296 f' m = num 4294967296 f n := by
    intro m f' c s
    have s' : num 4294967296 f' m = num 4294967296 f n := by
      rw [s]
      simp [total]
    exact ⟨can_le (by decide) c hd s', s'⟩
  have FIN := hide fin
  clear fin
  go_enter Tryd.func54, Tryd.ntmps54
  go_wp2_with fail
  refine (rAdd_any 1 1 n _ (fun _ => .slice ao n cap) (fun _ => n) (fun _ => f) _ (rds_oneE _ _ _ _ (by simp)) (fun i _ => (hs.up (up_alloc _ _)).up (up_alloc _ _)) (fun j _ => hd) (fun j _ => Nat.le_refl _) (by omega)).mono ?_
  rintro e w2 ⟨m, f', v', rfl, o, u, c, s⟩
  obtain ⟨l, s'⟩ := unhide FIN m f' c s
  have HS := hide s'
  clear s s' FIN
  obtain ⟨ao2, cap2, rfl, -⟩ := id o.sl
  obtain ⟨d0, d1, g0, g1, lt, e0, e1⟩ := res2 w.heap.size rfl ((up_alloc _ _).tr u)
  have hz : CanZ (b && !decide (m = 0)) f' m := CanZ.of c
  by_cases hm : m = 0
  · subst hm
    cases b <;>
    · go_wp2_with fail
      refine bodyPost_ret (by simp [results, Tryd.results54, go_sem, e0, e1]; rfl) rfl ?_
      refine ⟨_, _, 0, _, rfl, ⟨_, rfl, (o.set2 (by simp; omega)).mono (by simp; omega)⟩, Up.set2 ((up_alloc w _).tr ((up_alloc _ _).tr u)) (Nat.le_refl _), by simpa using hz, l, ?_⟩
      rw [← unhide HS]
      try simp [sgn, num]
  · have hm1 : 0 < m := by omega
    cases b <;>
    · go_wp2_with fail
      refine bodyPost_ret (by simp [results, Tryd.results54, go_sem, e0, e1]; rfl) rfl ?_
      refine ⟨_, _, m, _, rfl, ⟨_, rfl, (o.set2 (by simp; omega)).mono (by simp; omega)⟩, Up.set2 ((up_alloc w _).tr ((up_alloc _ _).tr u)) (Nat.le_refl _), by simpa [hm] using hz, l, ?_⟩
      rw [← unhide HS]

set_option maxRecDepth 4000 in
set_option maxHeartbeats 1000000 in
theorem r2canon_any (a : Value) (b : Bool) (n : Nat) (f : Nat → Nat) (w : World) (hs : Nm w a b n f) (hd : ∀ i, i < n → f i < 4294967296) (hn : 2 * n + 1 ≤ 10000000000) :
    Calls Tryd.prog 53 #[a] w fun e w' => ∃ a b' m f', e = .returned a ∧ OwnN w' w.heap.size a b' m f' ∧ Up w w' ∧ CanZ b' f' m ∧ m ≤ n ∧ sgn b' (num 4294967296 f' m) = sgn b (num 4294967296 f n) := by
  obtain ⟨v, rfl, hs⟩ := hs
  obtain ⟨ao, cap, rfl, -⟩ := id hs
  go_enter Tryd.func53, Tryd.ntmps53
  go_wp2_with fail
  refine (r2of_any b _ n f _ ((hs.up (up_alloc _ _)).up (up_alloc _ _)) hd hn).mono ?_
  rintro e w2 ⟨a2, b2, m, f', rfl, ⟨v2, rfl, o⟩, u, c, l, s⟩
  have HS := hide s
  clear s
  obtain ⟨ao2, cap2, rfl, -⟩ := id o.sl
  obtain ⟨d0, d1, g0, g1, lt, e0, e1⟩ := res2 (w.heap.size + 1) (by simp) u
  go_wp2_with fail
  refine bodyPost_ret (by simp [results, Tryd.results53, go_sem, e0, e1]; rfl) rfl ?_
  exact ⟨_, b2, m, _, rfl, ⟨_, rfl, (o.set2 (by simp)).mono (by simp; omega)⟩, Up.set2 ((up_alloc w _).tr ((up_alloc _ _).tr u)) (by omega), c, l, unhide HS⟩

set_option maxRecDepth 4000 in
set_option maxHeartbeats 1000000 in
theorem r2neg_any (a : Value) (b : Bool) (n : Nat) (f : Nat → Nat) (w : World) (hs : Nm w a b n f) (hd : ∀ i, i < n → f i < 4294967296) (hn : 2 * n + 1 ≤ 10000000000) :
    Calls Tryd.prog 31 #[a] w fun e w' => ∃ a b' m f', e = .returned a ∧ OwnN w' w.heap.size a b' m f' ∧ Up w w' ∧ CanZ b' f' m ∧ m ≤ n ∧ sgn b' (num 4294967296 f' m) = sgn (!b) (num 4294967296 f n) := by
  obtain ⟨v, rfl, hs⟩ := hs
  obtain ⟨ao, cap, rfl, -⟩ := id hs
  go_enter Tryd.func31, Tryd.ntmps31
  go_wp2_with fail
  refine (r2of_any (!b) _ n f _ ((hs.up (up_alloc _ _)).up (up_alloc _ _)) hd hn).mono ?_
  rintro e w2 ⟨a2, b2, m, f', rfl, ⟨v2, rfl, o⟩, u, c, l, s⟩
  have HS := hide s
  clear s
  obtain ⟨ao2, cap2, rfl, -⟩ := id o.sl
  obtain ⟨d0, d1, g0, g1, lt, e0, e1⟩ := res2 (w.heap.size + 1) (by simp) u
  go_wp2_with fail
  refine bodyPost_ret (by simp [results, Tryd.results31, go_sem, e0, e1]; rfl) rfl ?_
  exact ⟨_, b2, m, _, rfl, ⟨_, rfl, (o.set2 (by simp)).mono (by simp; omega)⟩, Up.set2 ((up_alloc w _).tr ((up_alloc _ _).tr u)) (by omega), c, l, unhide HS⟩

theorem sgn_not (b : Bool) (x : Nat) : sgn (!b) x = - sgn b x := by
  cases b <;> simp [sgn]

theorem r2canon_rd {X : Int} {M : Nat} {w : World} {a : Value} (h : RdD X M w a) (hM : 2 * M + 1 ≤ 10000000000) :
    Calls Tryd.prog 53 #[a] w fun e w' => ∃ v, e = .returned v ∧ NumIn X M w' w.heap.size w'.heap.size v ∧ Up w w' := by
  obtain ⟨b, n, f, hn, d, l, s⟩ := h
  refine (r2canon_any a b n f w hn d (by omega)).mono ?_
  rintro e w' ⟨a', b', n', f', rfl, o, u, c, l', s'⟩
  exact ⟨a', rfl, ⟨b', n', f', CopIn.of o, c, by omega, by rw [s', s]⟩, u⟩
theorem r2neg_rd {X : Int} {M : Nat} {w : World} {a : Value} (h : RdD X M w a) (hM : 2 * M + 1 ≤ 10000000000) :
    Calls Tryd.prog 31 #[a] w fun e w' => ∃ v, e = .returned v ∧ NumIn (-X) M w' w.heap.size w'.heap.size v ∧ Up w w' := by
  obtain ⟨b, n, f, hn, d, l, s⟩ := h
  refine (r2neg_any a b n f w hn d (by omega)).mono ?_
  rintro e w' ⟨a', b', n', f', rfl, o, u, c, l', s'⟩
  exact ⟨a', rfl, ⟨b', n', f', CopIn.of o, c, by omega, by rw [s', sgn_not, s]⟩, u⟩

set_option maxRecDepth 4000 in
set_option maxHeartbeats 1000000 in
theorem r2int_any (z : Int) (w : World) (h1 : -9223372036854775808 ≤ z) (h2 : z ≤ 9223372036854775807) :
    Calls Tryd.prog 27 #[.int .i64 z] w fun e w' => ∃ a b n f, e = .returned a ∧ OwnN w' w.heap.size a b n f ∧ Up w w' ∧ CanZ b f n ∧ n ≤ 2 ∧ sgn b (num 4294967296 f n) = z := by
  by_cases hz : z < 0
  · obtain ⟨m, rfl⟩ : ∃ m : Nat, z = -(m : Int) := ⟨z.natAbs, by omega⟩
    have hm1 : 0 < m := by omega
    have hm2 : m ≤ 9223372036854775808 := by omega
    have hw1 : IntKind.u64.wrap (-(m : Int)) = 18446744073709551616 - (m : Int) := by
      simp only [IntKind.wrap, IntKind.bits, IntKind.signed]
      simp
      omega
    have hw : IntKind.u64.wrap (-IntKind.u64.wrap (-(m : Int))) = (m : Int) := by
      rw [hw1]
      simp only [IntKind.wrap, IntKind.bits, IntKind.signed]
      simp
      omega
    clear hw1 h1 h2
    go_enter Tryd.func27, Tryd.ntmps27
    go_wp2_with fail
    refine (r2of_any true _ 2 (pair (m % 4294967296) (m / 4294967296)) _ ((litTwo _ _ _ _ _ _ (by first | rw [hw] | skip; omega) (by first | rw [hw] | skip; omega) (by simp)).sl) (fun i _ => by unfold pair; split <;> omega) (by decide)).mono ?_
    rintro e w2 ⟨a2, b2, n2, f2, rfl, ⟨v2, rfl, o2⟩, u2, c2, l2, s2⟩
    rw [num_pair] at s2
    have HS2 := hide s2
    clear s2
    obtain ⟨ao2, cap2, rfl, -⟩ := id o2.sl
    obtain ⟨d0, d1, g0, g1, lt, e0, e1⟩ := res2 w.heap.size rfl ((up_alloc _ _).tr u2)
    go_wp2_with fail
    refine bodyPost_ret (by simp [results, Tryd.results27, go_sem, e0, e1]; rfl) rfl ?_
    refine ⟨_, b2, n2, _, rfl, ⟨_, rfl, (o2.set2 (by simp; omega)).mono (by simp; omega)⟩, Up.set2 ((up_alloc w _).tr ((up_alloc _ _).tr u2)) (Nat.le_refl _), c2, l2, ?_⟩
    rw [unhide HS2]
    simp only [sgn]
    simp
    omega
  · obtain ⟨m, rfl⟩ : ∃ m : Nat, z = (m : Int) := ⟨z.natAbs, by omega⟩
    have hm2 : m ≤ 9223372036854775807 := by omega
    clear h1 hz h2
    go_enter Tryd.func27, Tryd.ntmps27
    go_wp2_with fail
    refine (r2of_any false _ 2 (pair (m % 4294967296) (m / 4294967296)) _ ((litTwo _ _ _ _ _ _ (by omega) (by omega) (by simp)).sl) (fun i _ => by unfold pair; split <;> omega) (by decide)).mono ?_
    rintro e w2 ⟨a2, b2, n2, f2, rfl, ⟨v2, rfl, o2⟩, u2, c2, l2, s2⟩
    rw [num_pair] at s2
    have HS2 := hide s2
    clear s2
    obtain ⟨ao2, cap2, rfl, -⟩ := id o2.sl
    obtain ⟨d0, d1, g0, g1, lt, e0, e1⟩ := res2 w.heap.size rfl ((up_alloc _ _).tr u2)
    go_wp2_with fail
    refine bodyPost_ret (by simp [results, Tryd.results27, go_sem, e0, e1]; rfl) rfl ?_
    refine ⟨_, b2, n2, _, rfl, ⟨_, rfl, (o2.set2 (by simp; omega)).mono (by simp; omega)⟩, Up.set2 ((up_alloc w _).tr ((up_alloc _ _).tr u2)) (Nat.le_refl _), c2, l2, ?_⟩
    rw [unhide HS2]
    simp only [sgn]
    simp
    omega

theorem r2int_rd (z : Int) (w : World) (h1 : -9223372036854775808 ≤ z) (h2 : z ≤ 9223372036854775807) :
    Calls Tryd.prog 27 #[.int .i64 z] w fun e w' => ∃ v, e = .returned v ∧ NumIn z 2 w' w.heap.size w'.heap.size v ∧ Up w w' := by
  refine (r2int_any z w h1 h2).mono ?_
  rintro e w' ⟨a, b, n, f, rfl, o, u, c, l, s⟩
  exact ⟨a, rfl, ⟨b, n, f, CopIn.of o, c, l, s⟩, u⟩

end Go.Proofs.YtjbocfhmfidjjaaDoor
