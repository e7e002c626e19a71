/-
  What is proved here: num.Parse reads a sign or none and decimal digits.
-/
import Derived.Test.YtdiacbfdfoeemaaDoorNNum
namespace Go.Proofs.YtdiacbfdfoeemaaDoor
open Go Go.RowKit

/-- How num.Parse ends: with a number, or with none. -/
def ParseEnd (r : Option Int) (M : Nat) (w : World) (e : Ending) (w' : World) : Prop := ∃ a b n f, e = .returned (.tuple #[a, .bool r.isSome]) ∧ OwnN w' w.heap.size a b n f ∧ Up w w' ∧ CanZ b f n ∧ n ≤ M ∧ sgn b (num 4294967296 f n) = r.getD 0

theorem cut_one (c : UInt8) (t : ByteArray) : (⟨#[c]⟩ ++ t : ByteArray).extract 1 (t.size + 1) = t := by
  apply ByteArray.ext
  rw [ByteArray.data_extract, ByteArray.data_append]
  have : t.size = t.data.size := rfl
  rw [this]
  apply Array.ext'
  simp
  exact List.take_of_length_le (by rw [Array.length_toList]; exact Nat.le_refl _)

set_option maxRecDepth 4000 in
set_option maxHeartbeats 1000000 in
theorem parsez_sign (c : UInt8) (t : ByteArray) (x : Nat) (w : World) (hc : c = 43 ∨ c = 45) (ht : Digs t x) (hs : 4 * (t.size + 3) ≤ 140737488355328) :
    Calls Tryd.prog 42 #[.string (⟨#[c]⟩ ++ t)] w fun e w' => ParseEnd (some (sgn (c == 45) x)) (t.size + 1) w e w' := by
  have hsz : (⟨#[c]⟩ ++ t : ByteArray).size = t.size + 1 := by rw [ByteArray.size_append]; show 1 + t.size = _; omega
  have hne := nonempty_of (⟨#[c]⟩ ++ t : ByteArray) (by omega)
  have hcut := cut_one c t
  obtain ⟨d, h1, h2, h3⟩ := ht
  have HD := hide (And.intro h2 h3)
  clear h2 h3
  go_enter Tryd.func42, Tryd.ntmps42
  rcases hc with rfl | rfl
  · go_wp2_with fail
    refine (parse_yes t d _ (by omega) hs (unhide HD).1).mono ?_
    rintro e w1 ⟨v1, n1, f1, rfl, o1, u1, c1, l1, s1⟩
    replace u1 : Up _ w1 := u1
    have HS1 := hide s1
    clear s1
    obtain ⟨ao1, cap1, rfl, -⟩ := id o1.sl
    go_wp2_with fail
    refine (numberOf_own (w.heap.size + 1) _ n1 f1 false _ (o1.mono (by simp)) c1).mono ?_
    rintro e w2 ⟨a2, b2, rfl, o2, u2, c2, s2⟩
    have HS2 := hide s2
    clear s2
    obtain ⟨v2, rfl, o2⟩ := o2
    obtain ⟨ao2, cap2, rfl, -⟩ := id o2.sl
    go_wp2_with fail
    refine (answer_any _ b2 n1 f1 _ ⟨_, rfl, o2.sl⟩).mono ?_
    rintro e w3 ⟨a3, rfl, h3, u3⟩
    obtain rfl := h3 _ rfl
    obtain ⟨d0, d1, g0, g1, lt, e0, e1⟩ := res2 w.heap.size rfl ((u1.tr u2).tr u3)
    go_wp2_with fail
    refine bodyPost_ret (by simp [results, Tryd.results42, go_sem, e0, e1]; rfl) rfl ?_
    refine ⟨_, b2, n1, f1, rfl, ⟨_, rfl, ((o2.up u3).set2 (by omega)).mono (by omega)⟩, Up.set2 ((up_alloc w _).tr ((u1.tr u2).tr u3)) (Nat.le_refl _), c2, l1, ?_⟩
    rw [unhide HS2, unhide HS1, (unhide HD).2]
    rfl
  · go_wp2_with fail
    refine (parse_yes t d _ (by omega) hs (unhide HD).1).mono ?_
    rintro e w1 ⟨v1, n1, f1, rfl, o1, u1, c1, l1, s1⟩
    replace u1 : Up _ w1 := u1
    have HS1 := hide s1
    clear s1
    obtain ⟨ao1, cap1, rfl, -⟩ := id o1.sl
    go_wp2_with fail
    refine (numberOf_own (w.heap.size + 1) _ n1 f1 true _ (o1.mono (by simp)) c1).mono ?_
    rintro e w2 ⟨a2, b2, rfl, o2, u2, c2, s2⟩
    have HS2 := hide s2
    clear s2
    obtain ⟨v2, rfl, o2⟩ := o2
    obtain ⟨ao2, cap2, rfl, -⟩ := id o2.sl
    go_wp2_with fail
    refine (answer_any _ b2 n1 f1 _ ⟨_, rfl, o2.sl⟩).mono ?_
    rintro e w3 ⟨a3, rfl, h3, u3⟩
    obtain rfl := h3 _ rfl
    obtain ⟨d0, d1, g0, g1, lt, e0, e1⟩ := res2 w.heap.size rfl ((u1.tr u2).tr u3)
    go_wp2_with fail
    refine bodyPost_ret (by simp [results, Tryd.results42, go_sem, e0, e1]; rfl) rfl ?_
    refine ⟨_, b2, n1, f1, rfl, ⟨_, rfl, ((o2.up u3).set2 (by omega)).mono (by omega)⟩, Up.set2 ((up_alloc w _).tr ((u1.tr u2).tr u3)) (Nat.le_refl _), c2, l1, ?_⟩
    rw [unhide HS2, unhide HS1, (unhide HD).2]
    rfl

set_option maxRecDepth 4000 in
set_option maxHeartbeats 1000000 in
theorem parsez_plain (t : ByteArray) (x : Nat) (w : World) (ht : Digs t x) (hs : 4 * (t.size + 3) ≤ 140737488355328) :
    Calls Tryd.prog 42 #[.string t] w fun e w' => ParseEnd (some (sgn false x)) (t.size + 1) w e w' := by
  obtain ⟨d, h1, h2, h3⟩ := ht
  have hne := nonempty_of t (by omega)
  have h00 : 0 < t.size := by omega
  have c0 := h2 0 h00
  have k1 : ((t[0].toNat : Int) == 43) = false := by simp; omega
  have k2 : ((t[0].toNat : Int) == 45) = false := by simp; omega
  have HD := hide (And.intro h2 h3)
  clear h2 h3 c0
  go_enter Tryd.func42, Tryd.ntmps42
  go_wp2_with fail
  refine (parse_yes t d _ (by omega) hs (unhide HD).1).mono ?_
  rintro e w1 ⟨v1, n1, f1, rfl, o1, u1, c1, l1, s1⟩
  replace u1 : Up _ w1 := u1
  have HS1 := hide s1
  clear s1
  obtain ⟨ao1, cap1, rfl, -⟩ := id o1.sl
  go_wp2_with fail
  refine (numberOf_own (w.heap.size + 1) _ n1 f1 false _ (o1.mono (by simp)) c1).mono ?_
  rintro e w2 ⟨a2, b2, rfl, o2, u2, c2, s2⟩
  have HS2 := hide s2
  clear s2
  obtain ⟨v2, rfl, o2⟩ := o2
  obtain ⟨ao2, cap2, rfl, -⟩ := id o2.sl
  go_wp2_with fail
  refine (answer_any _ b2 n1 f1 _ ⟨_, rfl, o2.sl⟩).mono ?_
  rintro e w3 ⟨a3, rfl, h3, u3⟩
  obtain rfl := h3 _ rfl
  obtain ⟨d0, d1, g0, g1, lt, e0, e1⟩ := res2 w.heap.size rfl ((u1.tr u2).tr u3)
  go_wp2_with fail
  refine bodyPost_ret (by simp [results, Tryd.results42, go_sem, e0, e1]; rfl) rfl ?_
  refine ⟨_, b2, n1, f1, rfl, ⟨_, rfl, ((o2.up u3).set2 (by omega)).mono (by omega)⟩, Up.set2 ((up_alloc w _).tr ((u1.tr u2).tr u3)) (Nat.le_refl _), c2, l1, ?_⟩
  rw [unhide HS2, unhide HS1, (unhide HD).2]
  rfl

end Go.Proofs.YtdiacbfdfoeemaaDoor
