/-
  What is proved here: the document's own rules on operands (tandemref11.own), as the plain model says them.
-/
import Derived.Test.YtmogglmofbbjlaaKRefA
namespace Go.Proofs.Ytmogglmofbbjlaa
open Go Go.RowKit

theorem wrongM_at (np : Nat) (fr : Nat → Int) (p : PR) (k : Nat) (a b : Int) (h1 : 1 ≤ k) (h2 : k < 22) : wrongM np fr p (k : Int) a b = if (nA k = 0 ∧ a ≠ 0) ∨ (nB k = 0 ∧ b ≠ 0) then 30 else if thr np p (nA k) a = false ∨ thr np p (nB k) b = false then 33 else if nA k = 5 ∧ fr a.toNat ≠ b then 34 else if nA k = 6 ∧ takesM a b = false then 34 else 0 := by
  have ho : isIn (k : Int) 1 21 = true := by simp [isIn]; omega
  unfold wrongM
  rw [if_neg (by rw [ho]; decide)]
  rfl

set_option maxRecDepth 20000 in
set_option maxHeartbeats 2000000 in
theorem rown_7 (w : World) (so : Option Addr) (np sc : Nat) (fr : Nat → Int) (p : PR) (q : Hd) (a b : Int) (_hfr : FreesAt w so np fr) (_hs1 : np ≤ sc) (_hs2 : sc ≤ 9223372036854775807) (_hpb : PB p q) :
    Calls Try.prog 28 #[.slice so np sc, .agg #[.string q.nm, .int .i64 p.args, .int .i64 p.free, .bool p.rest, .slice q.co p.len q.cc, .slice q.ka p.nc q.kc, .slice q.na p.nn q.nc], .agg #[.int .i64 7, .int .i64 a, .int .i64 b]] w fun e w' => e = .returned (.int .i64 (wrongM np fr p 7 a b : Int)) ∧ Fr (fun _ => False) w w' := by
  have HW := hide (wrongM_at np fr p 7 a b (by omega) (by omega))
  rw [show (((7 : Nat) : Int)) = 7 from rfl] at HW
  generalize wrongM np fr p 7 a b = R at *
  have HT : Hid (True = True) := rfl
  clear _hpb _hfr
  by_cases ha : a = 0
  · subst ha
    by_cases hb : b = 0
    · subst hb
      go_enter Try.func28, Try.ntmps28
      go_wp2_with (first
        | (go_at_call 37; refine (rnamed_any 7 _ (by omega) (by omega)).mono ?_; rintro e w' ⟨rfl, hw'⟩; replace hw' := hw'.symm; subst hw')
        | (go_at_call 19; refine (rin_any _ _ _).mono ?_; rintro e w' ⟨rfl, hw'⟩; replace hw' := hw'.symm; subst hw'; rw [HT.out]))
      go_ret
      exact ⟨retI (by rw [HW.out]; simp [nA, nB, thr]), (by repeat (first | exact Fr.refl _ _ | apply Fr.alloc | apply Fr.drew | apply Fr.drewN))⟩
    · have nb : (b != 0) = true := by rw [bne_iff_ne]; exact hb
      have HB := hide hb
      clear hb
      go_enter Try.func28, Try.ntmps28
      go_wp2_with (first
        | (go_at_call 37; refine (rnamed_any 7 _ (by omega) (by omega)).mono ?_; rintro e w' ⟨rfl, hw'⟩; replace hw' := hw'.symm; subst hw')
        | (go_at_call 19; refine (rin_any _ _ _).mono ?_; rintro e w' ⟨rfl, hw'⟩; replace hw' := hw'.symm; subst hw'; rw [HT.out]))
      go_ret
      exact ⟨retI (by rw [HW.out]; simp [nA, nB, HB.out]), (by repeat (first | exact Fr.refl _ _ | apply Fr.alloc | apply Fr.drew | apply Fr.drewN))⟩
  · have na : (a != 0) = true := by rw [bne_iff_ne]; exact ha
    have HA := hide ha
    clear ha
    go_enter Try.func28, Try.ntmps28
    go_wp2_with (first
      | (go_at_call 37; refine (rnamed_any 7 _ (by omega) (by omega)).mono ?_; rintro e w' ⟨rfl, hw'⟩; replace hw' := hw'.symm; subst hw')
      | (go_at_call 19; refine (rin_any _ _ _).mono ?_; rintro e w' ⟨rfl, hw'⟩; replace hw' := hw'.symm; subst hw'; rw [HT.out]))
    go_ret
    exact ⟨retI (by rw [HW.out]; simp [nA, nB, HA.out]), (by repeat (first | exact Fr.refl _ _ | apply Fr.alloc | apply Fr.drew | apply Fr.drewN))⟩

set_option maxRecDepth 20000 in
set_option maxHeartbeats 2000000 in
theorem rown_8 (w : World) (so : Option Addr) (np sc : Nat) (fr : Nat → Int) (p : PR) (q : Hd) (a b : Int) (_hfr : FreesAt w so np fr) (_hs1 : np ≤ sc) (_hs2 : sc ≤ 9223372036854775807) (_hpb : PB p q) :
    Calls Try.prog 28 #[.slice so np sc, .agg #[.string q.nm, .int .i64 p.args, .int .i64 p.free, .bool p.rest, .slice q.co p.len q.cc, .slice q.ka p.nc q.kc, .slice q.na p.nn q.nc], .agg #[.int .i64 8, .int .i64 a, .int .i64 b]] w fun e w' => e = .returned (.int .i64 (wrongM np fr p 8 a b : Int)) ∧ Fr (fun _ => False) w w' := by
  have HW := hide (wrongM_at np fr p 8 a b (by omega) (by omega))
  rw [show (((8 : Nat) : Int)) = 8 from rfl] at HW
  generalize wrongM np fr p 8 a b = R at *
  have HT : Hid (True = True) := rfl
  clear _hpb _hfr
  by_cases ha : a = 0
  · subst ha
    by_cases hb : b = 0
    · subst hb
      go_enter Try.func28, Try.ntmps28
      go_wp2_with (first
        | (go_at_call 37; refine (rnamed_any 8 _ (by omega) (by omega)).mono ?_; rintro e w' ⟨rfl, hw'⟩; replace hw' := hw'.symm; subst hw')
        | (go_at_call 19; refine (rin_any _ _ _).mono ?_; rintro e w' ⟨rfl, hw'⟩; replace hw' := hw'.symm; subst hw'; rw [HT.out]))
      go_ret
      exact ⟨retI (by rw [HW.out]; simp [nA, nB, thr]), (by repeat (first | exact Fr.refl _ _ | apply Fr.alloc | apply Fr.drew | apply Fr.drewN))⟩
    · have nb : (b != 0) = true := by rw [bne_iff_ne]; exact hb
      have HB := hide hb
      clear hb
      go_enter Try.func28, Try.ntmps28
      go_wp2_with (first
        | (go_at_call 37; refine (rnamed_any 8 _ (by omega) (by omega)).mono ?_; rintro e w' ⟨rfl, hw'⟩; replace hw' := hw'.symm; subst hw')
        | (go_at_call 19; refine (rin_any _ _ _).mono ?_; rintro e w' ⟨rfl, hw'⟩; replace hw' := hw'.symm; subst hw'; rw [HT.out]))
      go_ret
      exact ⟨retI (by rw [HW.out]; simp [nA, nB, HB.out]), (by repeat (first | exact Fr.refl _ _ | apply Fr.alloc | apply Fr.drew | apply Fr.drewN))⟩
  · have na : (a != 0) = true := by rw [bne_iff_ne]; exact ha
    have HA := hide ha
    clear ha
    go_enter Try.func28, Try.ntmps28
    go_wp2_with (first
      | (go_at_call 37; refine (rnamed_any 8 _ (by omega) (by omega)).mono ?_; rintro e w' ⟨rfl, hw'⟩; replace hw' := hw'.symm; subst hw')
      | (go_at_call 19; refine (rin_any _ _ _).mono ?_; rintro e w' ⟨rfl, hw'⟩; replace hw' := hw'.symm; subst hw'; rw [HT.out]))
    go_ret
    exact ⟨retI (by rw [HW.out]; simp [nA, nB, HA.out]), (by repeat (first | exact Fr.refl _ _ | apply Fr.alloc | apply Fr.drew | apply Fr.drewN))⟩

set_option maxRecDepth 20000 in
set_option maxHeartbeats 2000000 in
theorem rown_9 (w : World) (so : Option Addr) (np sc : Nat) (fr : Nat → Int) (p : PR) (q : Hd) (a b : Int) (_hfr : FreesAt w so np fr) (_hs1 : np ≤ sc) (_hs2 : sc ≤ 9223372036854775807) (_hpb : PB p q) :
    Calls Try.prog 28 #[.slice so np sc, .agg #[.string q.nm, .int .i64 p.args, .int .i64 p.free, .bool p.rest, .slice q.co p.len q.cc, .slice q.ka p.nc q.kc, .slice q.na p.nn q.nc], .agg #[.int .i64 9, .int .i64 a, .int .i64 b]] w fun e w' => e = .returned (.int .i64 (wrongM np fr p 9 a b : Int)) ∧ Fr (fun _ => False) w w' := by
  have HW := hide (wrongM_at np fr p 9 a b (by omega) (by omega))
  rw [show (((9 : Nat) : Int)) = 9 from rfl] at HW
  generalize wrongM np fr p 9 a b = R at *
  have HT : Hid (True = True) := rfl
  clear _hpb _hfr
  by_cases ha : a = 0
  · subst ha
    by_cases hb : b = 0
    · subst hb
      go_enter Try.func28, Try.ntmps28
      go_wp2_with (first
        | (go_at_call 37; refine (rnamed_any 9 _ (by omega) (by omega)).mono ?_; rintro e w' ⟨rfl, hw'⟩; replace hw' := hw'.symm; subst hw')
        | (go_at_call 19; refine (rin_any _ _ _).mono ?_; rintro e w' ⟨rfl, hw'⟩; replace hw' := hw'.symm; subst hw'; rw [HT.out]))
      go_ret
      exact ⟨retI (by rw [HW.out]; simp [nA, nB, thr]), (by repeat (first | exact Fr.refl _ _ | apply Fr.alloc | apply Fr.drew | apply Fr.drewN))⟩
    · have nb : (b != 0) = true := by rw [bne_iff_ne]; exact hb
      have HB := hide hb
      clear hb
      go_enter Try.func28, Try.ntmps28
      go_wp2_with (first
        | (go_at_call 37; refine (rnamed_any 9 _ (by omega) (by omega)).mono ?_; rintro e w' ⟨rfl, hw'⟩; replace hw' := hw'.symm; subst hw')
        | (go_at_call 19; refine (rin_any _ _ _).mono ?_; rintro e w' ⟨rfl, hw'⟩; replace hw' := hw'.symm; subst hw'; rw [HT.out]))
      go_ret
      exact ⟨retI (by rw [HW.out]; simp [nA, nB, HB.out]), (by repeat (first | exact Fr.refl _ _ | apply Fr.alloc | apply Fr.drew | apply Fr.drewN))⟩
  · have na : (a != 0) = true := by rw [bne_iff_ne]; exact ha
    have HA := hide ha
    clear ha
    go_enter Try.func28, Try.ntmps28
    go_wp2_with (first
      | (go_at_call 37; refine (rnamed_any 9 _ (by omega) (by omega)).mono ?_; rintro e w' ⟨rfl, hw'⟩; replace hw' := hw'.symm; subst hw')
      | (go_at_call 19; refine (rin_any _ _ _).mono ?_; rintro e w' ⟨rfl, hw'⟩; replace hw' := hw'.symm; subst hw'; rw [HT.out]))
    go_ret
    exact ⟨retI (by rw [HW.out]; simp [nA, nB, HA.out]), (by repeat (first | exact Fr.refl _ _ | apply Fr.alloc | apply Fr.drew | apply Fr.drewN))⟩

set_option maxRecDepth 20000 in
set_option maxHeartbeats 2000000 in
theorem rown_13 (w : World) (so : Option Addr) (np sc : Nat) (fr : Nat → Int) (p : PR) (q : Hd) (a b : Int) (_hfr : FreesAt w so np fr) (_hs1 : np ≤ sc) (_hs2 : sc ≤ 9223372036854775807) (_hpb : PB p q) :
    Calls Try.prog 28 #[.slice so np sc, .agg #[.string q.nm, .int .i64 p.args, .int .i64 p.free, .bool p.rest, .slice q.co p.len q.cc, .slice q.ka p.nc q.kc, .slice q.na p.nn q.nc], .agg #[.int .i64 13, .int .i64 a, .int .i64 b]] w fun e w' => e = .returned (.int .i64 (wrongM np fr p 13 a b : Int)) ∧ Fr (fun _ => False) w w' := by
  have HW := hide (wrongM_at np fr p 13 a b (by omega) (by omega))
  rw [show (((13 : Nat) : Int)) = 13 from rfl] at HW
  generalize wrongM np fr p 13 a b = R at *
  have HT : Hid (True = True) := rfl
  clear _hpb _hfr
  by_cases ha : a = 0
  · subst ha
    by_cases hb : b = 0
    · subst hb
      go_enter Try.func28, Try.ntmps28
      go_wp2_with (first
        | (go_at_call 37; refine (rnamed_any 13 _ (by omega) (by omega)).mono ?_; rintro e w' ⟨rfl, hw'⟩; replace hw' := hw'.symm; subst hw')
        | (go_at_call 19; refine (rin_any _ _ _).mono ?_; rintro e w' ⟨rfl, hw'⟩; replace hw' := hw'.symm; subst hw'; rw [HT.out]))
      go_ret
      exact ⟨retI (by rw [HW.out]; simp [nA, nB, thr]), (by repeat (first | exact Fr.refl _ _ | apply Fr.alloc | apply Fr.drew | apply Fr.drewN))⟩
    · have nb : (b != 0) = true := by rw [bne_iff_ne]; exact hb
      have HB := hide hb
      clear hb
      go_enter Try.func28, Try.ntmps28
      go_wp2_with (first
        | (go_at_call 37; refine (rnamed_any 13 _ (by omega) (by omega)).mono ?_; rintro e w' ⟨rfl, hw'⟩; replace hw' := hw'.symm; subst hw')
        | (go_at_call 19; refine (rin_any _ _ _).mono ?_; rintro e w' ⟨rfl, hw'⟩; replace hw' := hw'.symm; subst hw'; rw [HT.out]))
      go_ret
      exact ⟨retI (by rw [HW.out]; simp [nA, nB, HB.out]), (by repeat (first | exact Fr.refl _ _ | apply Fr.alloc | apply Fr.drew | apply Fr.drewN))⟩
  · have na : (a != 0) = true := by rw [bne_iff_ne]; exact ha
    have HA := hide ha
    clear ha
    go_enter Try.func28, Try.ntmps28
    go_wp2_with (first
      | (go_at_call 37; refine (rnamed_any 13 _ (by omega) (by omega)).mono ?_; rintro e w' ⟨rfl, hw'⟩; replace hw' := hw'.symm; subst hw')
      | (go_at_call 19; refine (rin_any _ _ _).mono ?_; rintro e w' ⟨rfl, hw'⟩; replace hw' := hw'.symm; subst hw'; rw [HT.out]))
    go_ret
    exact ⟨retI (by rw [HW.out]; simp [nA, nB, HA.out]), (by repeat (first | exact Fr.refl _ _ | apply Fr.alloc | apply Fr.drew | apply Fr.drewN))⟩

set_option maxRecDepth 20000 in
set_option maxHeartbeats 2000000 in
theorem rown_17 (w : World) (so : Option Addr) (np sc : Nat) (fr : Nat → Int) (p : PR) (q : Hd) (a b : Int) (_hfr : FreesAt w so np fr) (_hs1 : np ≤ sc) (_hs2 : sc ≤ 9223372036854775807) (_hpb : PB p q) :
    Calls Try.prog 28 #[.slice so np sc, .agg #[.string q.nm, .int .i64 p.args, .int .i64 p.free, .bool p.rest, .slice q.co p.len q.cc, .slice q.ka p.nc q.kc, .slice q.na p.nn q.nc], .agg #[.int .i64 17, .int .i64 a, .int .i64 b]] w fun e w' => e = .returned (.int .i64 (wrongM np fr p 17 a b : Int)) ∧ Fr (fun _ => False) w w' := by
  have HW := hide (wrongM_at np fr p 17 a b (by omega) (by omega))
  rw [show (((17 : Nat) : Int)) = 17 from rfl] at HW
  generalize wrongM np fr p 17 a b = R at *
  have HT : Hid (True = True) := rfl
  clear _hpb _hfr
  by_cases ha : a = 0
  · subst ha
    by_cases hb : b = 0
    · subst hb
      go_enter Try.func28, Try.ntmps28
      go_wp2_with (first
        | (go_at_call 37; refine (rnamed_any 17 _ (by omega) (by omega)).mono ?_; rintro e w' ⟨rfl, hw'⟩; replace hw' := hw'.symm; subst hw')
        | (go_at_call 19; refine (rin_any _ _ _).mono ?_; rintro e w' ⟨rfl, hw'⟩; replace hw' := hw'.symm; subst hw'; rw [HT.out]))
      go_ret
      exact ⟨retI (by rw [HW.out]; simp [nA, nB, thr]), (by repeat (first | exact Fr.refl _ _ | apply Fr.alloc | apply Fr.drew | apply Fr.drewN))⟩
    · have nb : (b != 0) = true := by rw [bne_iff_ne]; exact hb
      have HB := hide hb
      clear hb
      go_enter Try.func28, Try.ntmps28
      go_wp2_with (first
        | (go_at_call 37; refine (rnamed_any 17 _ (by omega) (by omega)).mono ?_; rintro e w' ⟨rfl, hw'⟩; replace hw' := hw'.symm; subst hw')
        | (go_at_call 19; refine (rin_any _ _ _).mono ?_; rintro e w' ⟨rfl, hw'⟩; replace hw' := hw'.symm; subst hw'; rw [HT.out]))
      go_ret
      exact ⟨retI (by rw [HW.out]; simp [nA, nB, HB.out]), (by repeat (first | exact Fr.refl _ _ | apply Fr.alloc | apply Fr.drew | apply Fr.drewN))⟩
  · have na : (a != 0) = true := by rw [bne_iff_ne]; exact ha
    have HA := hide ha
    clear ha
    go_enter Try.func28, Try.ntmps28
    go_wp2_with (first
      | (go_at_call 37; refine (rnamed_any 17 _ (by omega) (by omega)).mono ?_; rintro e w' ⟨rfl, hw'⟩; replace hw' := hw'.symm; subst hw')
      | (go_at_call 19; refine (rin_any _ _ _).mono ?_; rintro e w' ⟨rfl, hw'⟩; replace hw' := hw'.symm; subst hw'; rw [HT.out]))
    go_ret
    exact ⟨retI (by rw [HW.out]; simp [nA, nB, HA.out]), (by repeat (first | exact Fr.refl _ _ | apply Fr.alloc | apply Fr.drew | apply Fr.drewN))⟩

set_option maxRecDepth 20000 in
set_option maxHeartbeats 2000000 in
theorem rown_20 (w : World) (so : Option Addr) (np sc : Nat) (fr : Nat → Int) (p : PR) (q : Hd) (a b : Int) (_hfr : FreesAt w so np fr) (_hs1 : np ≤ sc) (_hs2 : sc ≤ 9223372036854775807) (_hpb : PB p q) :
    Calls Try.prog 28 #[.slice so np sc, .agg #[.string q.nm, .int .i64 p.args, .int .i64 p.free, .bool p.rest, .slice q.co p.len q.cc, .slice q.ka p.nc q.kc, .slice q.na p.nn q.nc], .agg #[.int .i64 20, .int .i64 a, .int .i64 b]] w fun e w' => e = .returned (.int .i64 (wrongM np fr p 20 a b : Int)) ∧ Fr (fun _ => False) w w' := by
  have HW := hide (wrongM_at np fr p 20 a b (by omega) (by omega))
  rw [show (((20 : Nat) : Int)) = 20 from rfl] at HW
  generalize wrongM np fr p 20 a b = R at *
  have HT : Hid (True = True) := rfl
  clear _hpb _hfr
  by_cases ha : a = 0
  · subst ha
    by_cases hb : b = 0
    · subst hb
      go_enter Try.func28, Try.ntmps28
      go_wp2_with (first
        | (go_at_call 37; refine (rnamed_any 20 _ (by omega) (by omega)).mono ?_; rintro e w' ⟨rfl, hw'⟩; replace hw' := hw'.symm; subst hw')
        | (go_at_call 19; refine (rin_any _ _ _).mono ?_; rintro e w' ⟨rfl, hw'⟩; replace hw' := hw'.symm; subst hw'; rw [HT.out]))
      go_ret
      exact ⟨retI (by rw [HW.out]; simp [nA, nB, thr]), (by repeat (first | exact Fr.refl _ _ | apply Fr.alloc | apply Fr.drew | apply Fr.drewN))⟩
    · have nb : (b != 0) = true := by rw [bne_iff_ne]; exact hb
      have HB := hide hb
      clear hb
      go_enter Try.func28, Try.ntmps28
      go_wp2_with (first
        | (go_at_call 37; refine (rnamed_any 20 _ (by omega) (by omega)).mono ?_; rintro e w' ⟨rfl, hw'⟩; replace hw' := hw'.symm; subst hw')
        | (go_at_call 19; refine (rin_any _ _ _).mono ?_; rintro e w' ⟨rfl, hw'⟩; replace hw' := hw'.symm; subst hw'; rw [HT.out]))
      go_ret
      exact ⟨retI (by rw [HW.out]; simp [nA, nB, HB.out]), (by repeat (first | exact Fr.refl _ _ | apply Fr.alloc | apply Fr.drew | apply Fr.drewN))⟩
  · have na : (a != 0) = true := by rw [bne_iff_ne]; exact ha
    have HA := hide ha
    clear ha
    go_enter Try.func28, Try.ntmps28
    go_wp2_with (first
      | (go_at_call 37; refine (rnamed_any 20 _ (by omega) (by omega)).mono ?_; rintro e w' ⟨rfl, hw'⟩; replace hw' := hw'.symm; subst hw')
      | (go_at_call 19; refine (rin_any _ _ _).mono ?_; rintro e w' ⟨rfl, hw'⟩; replace hw' := hw'.symm; subst hw'; rw [HT.out]))
    go_ret
    exact ⟨retI (by rw [HW.out]; simp [nA, nB, HA.out]), (by repeat (first | exact Fr.refl _ _ | apply Fr.alloc | apply Fr.drew | apply Fr.drewN))⟩

set_option maxRecDepth 20000 in
set_option maxHeartbeats 2000000 in
theorem rown_2 (w : World) (so : Option Addr) (np sc : Nat) (fr : Nat → Int) (p : PR) (q : Hd) (a b : Int) (_hfr : FreesAt w so np fr) (_hs1 : np ≤ sc) (_hs2 : sc ≤ 9223372036854775807) (_hpb : PB p q) :
    Calls Try.prog 28 #[.slice so np sc, .agg #[.string q.nm, .int .i64 p.args, .int .i64 p.free, .bool p.rest, .slice q.co p.len q.cc, .slice q.ka p.nc q.kc, .slice q.na p.nn q.nc], .agg #[.int .i64 2, .int .i64 a, .int .i64 b]] w fun e w' => e = .returned (.int .i64 (wrongM np fr p 2 a b : Int)) ∧ Fr (fun _ => False) w w' := by
  have HW := hide (wrongM_at np fr p 2 a b (by omega) (by omega))
  rw [show (((2 : Nat) : Int)) = 2 from rfl] at HW
  generalize wrongM np fr p 2 a b = R at *
  have HT : Hid (True = True) := rfl
  clear _hpb _hfr
  by_cases hb : b = 0
  · subst hb
    go_enter Try.func28, Try.ntmps28
    go_wp2_with (first
      | (go_at_call 37; refine (rnamed_any 2 _ (by omega) (by omega)).mono ?_; rintro e w' ⟨rfl, hw'⟩; replace hw' := hw'.symm; subst hw')
      | (go_at_call 19; refine (rin_any _ _ _).mono ?_; rintro e w' ⟨rfl, hw'⟩; replace hw' := hw'.symm; subst hw'; rw [HT.out]))
    go_ret
    exact ⟨retI (by rw [HW.out]; simp [nA, nB, thr]), (by repeat (first | exact Fr.refl _ _ | apply Fr.alloc | apply Fr.drew | apply Fr.drewN))⟩
  · have nb : (b != 0) = true := by rw [bne_iff_ne]; exact hb
    have HB := hide hb
    clear hb
    go_enter Try.func28, Try.ntmps28
    go_wp2_with (first
      | (go_at_call 37; refine (rnamed_any 2 _ (by omega) (by omega)).mono ?_; rintro e w' ⟨rfl, hw'⟩; replace hw' := hw'.symm; subst hw')
      | (go_at_call 19; refine (rin_any _ _ _).mono ?_; rintro e w' ⟨rfl, hw'⟩; replace hw' := hw'.symm; subst hw'; rw [HT.out]))
    go_ret
    exact ⟨retI (by rw [HW.out]; simp [nA, nB, HB.out]), (by repeat (first | exact Fr.refl _ _ | apply Fr.alloc | apply Fr.drew | apply Fr.drewN))⟩

set_option maxRecDepth 20000 in
set_option maxHeartbeats 2000000 in
theorem rown_14 (w : World) (so : Option Addr) (np sc : Nat) (fr : Nat → Int) (p : PR) (q : Hd) (a b : Int) (_hfr : FreesAt w so np fr) (_hs1 : np ≤ sc) (_hs2 : sc ≤ 9223372036854775807) (_hpb : PB p q) :
    Calls Try.prog 28 #[.slice so np sc, .agg #[.string q.nm, .int .i64 p.args, .int .i64 p.free, .bool p.rest, .slice q.co p.len q.cc, .slice q.ka p.nc q.kc, .slice q.na p.nn q.nc], .agg #[.int .i64 14, .int .i64 a, .int .i64 b]] w fun e w' => e = .returned (.int .i64 (wrongM np fr p 14 a b : Int)) ∧ Fr (fun _ => False) w w' := by
  have HW := hide (wrongM_at np fr p 14 a b (by omega) (by omega))
  rw [show (((14 : Nat) : Int)) = 14 from rfl] at HW
  generalize wrongM np fr p 14 a b = R at *
  have HT : Hid (True = True) := rfl
  clear _hpb _hfr
  by_cases hb : b = 0
  · subst hb
    go_enter Try.func28, Try.ntmps28
    go_wp2_with (first
      | (go_at_call 37; refine (rnamed_any 14 _ (by omega) (by omega)).mono ?_; rintro e w' ⟨rfl, hw'⟩; replace hw' := hw'.symm; subst hw')
      | (go_at_call 19; refine (rin_any _ _ _).mono ?_; rintro e w' ⟨rfl, hw'⟩; replace hw' := hw'.symm; subst hw'; rw [HT.out]))
    go_ret
    exact ⟨retI (by rw [HW.out]; simp [nA, nB, thr]), (by repeat (first | exact Fr.refl _ _ | apply Fr.alloc | apply Fr.drew | apply Fr.drewN))⟩
  · have nb : (b != 0) = true := by rw [bne_iff_ne]; exact hb
    have HB := hide hb
    clear hb
    go_enter Try.func28, Try.ntmps28
    go_wp2_with (first
      | (go_at_call 37; refine (rnamed_any 14 _ (by omega) (by omega)).mono ?_; rintro e w' ⟨rfl, hw'⟩; replace hw' := hw'.symm; subst hw')
      | (go_at_call 19; refine (rin_any _ _ _).mono ?_; rintro e w' ⟨rfl, hw'⟩; replace hw' := hw'.symm; subst hw'; rw [HT.out]))
    go_ret
    exact ⟨retI (by rw [HW.out]; simp [nA, nB, HB.out]), (by repeat (first | exact Fr.refl _ _ | apply Fr.alloc | apply Fr.drew | apply Fr.drewN))⟩

set_option maxRecDepth 20000 in
set_option maxHeartbeats 2000000 in
theorem rown_15 (w : World) (so : Option Addr) (np sc : Nat) (fr : Nat → Int) (p : PR) (q : Hd) (a b : Int) (_hfr : FreesAt w so np fr) (_hs1 : np ≤ sc) (_hs2 : sc ≤ 9223372036854775807) (_hpb : PB p q) :
    Calls Try.prog 28 #[.slice so np sc, .agg #[.string q.nm, .int .i64 p.args, .int .i64 p.free, .bool p.rest, .slice q.co p.len q.cc, .slice q.ka p.nc q.kc, .slice q.na p.nn q.nc], .agg #[.int .i64 15, .int .i64 a, .int .i64 b]] w fun e w' => e = .returned (.int .i64 (wrongM np fr p 15 a b : Int)) ∧ Fr (fun _ => False) w w' := by
  have HW := hide (wrongM_at np fr p 15 a b (by omega) (by omega))
  rw [show (((15 : Nat) : Int)) = 15 from rfl] at HW
  generalize wrongM np fr p 15 a b = R at *
  have HT : Hid (True = True) := rfl
  clear _hpb _hfr
  by_cases hb : b = 0
  · subst hb
    go_enter Try.func28, Try.ntmps28
    go_wp2_with (first
      | (go_at_call 37; refine (rnamed_any 15 _ (by omega) (by omega)).mono ?_; rintro e w' ⟨rfl, hw'⟩; replace hw' := hw'.symm; subst hw')
      | (go_at_call 19; refine (rin_any _ _ _).mono ?_; rintro e w' ⟨rfl, hw'⟩; replace hw' := hw'.symm; subst hw'; rw [HT.out]))
    go_ret
    exact ⟨retI (by rw [HW.out]; simp [nA, nB, thr]), (by repeat (first | exact Fr.refl _ _ | apply Fr.alloc | apply Fr.drew | apply Fr.drewN))⟩
  · have nb : (b != 0) = true := by rw [bne_iff_ne]; exact hb
    have HB := hide hb
    clear hb
    go_enter Try.func28, Try.ntmps28
    go_wp2_with (first
      | (go_at_call 37; refine (rnamed_any 15 _ (by omega) (by omega)).mono ?_; rintro e w' ⟨rfl, hw'⟩; replace hw' := hw'.symm; subst hw')
      | (go_at_call 19; refine (rin_any _ _ _).mono ?_; rintro e w' ⟨rfl, hw'⟩; replace hw' := hw'.symm; subst hw'; rw [HT.out]))
    go_ret
    exact ⟨retI (by rw [HW.out]; simp [nA, nB, HB.out]), (by repeat (first | exact Fr.refl _ _ | apply Fr.alloc | apply Fr.drew | apply Fr.drewN))⟩

set_option maxRecDepth 20000 in
set_option maxHeartbeats 2000000 in
theorem rown_19 (w : World) (so : Option Addr) (np sc : Nat) (fr : Nat → Int) (p : PR) (q : Hd) (a b : Int) (_hfr : FreesAt w so np fr) (_hs1 : np ≤ sc) (_hs2 : sc ≤ 9223372036854775807) (_hpb : PB p q) :
    Calls Try.prog 28 #[.slice so np sc, .agg #[.string q.nm, .int .i64 p.args, .int .i64 p.free, .bool p.rest, .slice q.co p.len q.cc, .slice q.ka p.nc q.kc, .slice q.na p.nn q.nc], .agg #[.int .i64 19, .int .i64 a, .int .i64 b]] w fun e w' => e = .returned (.int .i64 (wrongM np fr p 19 a b : Int)) ∧ Fr (fun _ => False) w w' := by
  have HW := hide (wrongM_at np fr p 19 a b (by omega) (by omega))
  rw [show (((19 : Nat) : Int)) = 19 from rfl] at HW
  generalize wrongM np fr p 19 a b = R at *
  have HT : Hid (True = True) := rfl
  clear _hpb _hfr
  by_cases hb : b = 0
  · subst hb
    go_enter Try.func28, Try.ntmps28
    go_wp2_with (first
      | (go_at_call 37; refine (rnamed_any 19 _ (by omega) (by omega)).mono ?_; rintro e w' ⟨rfl, hw'⟩; replace hw' := hw'.symm; subst hw')
      | (go_at_call 19; refine (rin_any _ _ _).mono ?_; rintro e w' ⟨rfl, hw'⟩; replace hw' := hw'.symm; subst hw'; rw [HT.out]))
    go_ret
    exact ⟨retI (by rw [HW.out]; simp [nA, nB, thr]), (by repeat (first | exact Fr.refl _ _ | apply Fr.alloc | apply Fr.drew | apply Fr.drewN))⟩
  · have nb : (b != 0) = true := by rw [bne_iff_ne]; exact hb
    have HB := hide hb
    clear hb
    go_enter Try.func28, Try.ntmps28
    go_wp2_with (first
      | (go_at_call 37; refine (rnamed_any 19 _ (by omega) (by omega)).mono ?_; rintro e w' ⟨rfl, hw'⟩; replace hw' := hw'.symm; subst hw')
      | (go_at_call 19; refine (rin_any _ _ _).mono ?_; rintro e w' ⟨rfl, hw'⟩; replace hw' := hw'.symm; subst hw'; rw [HT.out]))
    go_ret
    exact ⟨retI (by rw [HW.out]; simp [nA, nB, HB.out]), (by repeat (first | exact Fr.refl _ _ | apply Fr.alloc | apply Fr.drew | apply Fr.drewN))⟩

set_option maxRecDepth 20000 in
set_option maxHeartbeats 2000000 in
theorem rown_21 (w : World) (so : Option Addr) (np sc : Nat) (fr : Nat → Int) (p : PR) (q : Hd) (a b : Int) (_hfr : FreesAt w so np fr) (_hs1 : np ≤ sc) (_hs2 : sc ≤ 9223372036854775807) (_hpb : PB p q) :
    Calls Try.prog 28 #[.slice so np sc, .agg #[.string q.nm, .int .i64 p.args, .int .i64 p.free, .bool p.rest, .slice q.co p.len q.cc, .slice q.ka p.nc q.kc, .slice q.na p.nn q.nc], .agg #[.int .i64 21, .int .i64 a, .int .i64 b]] w fun e w' => e = .returned (.int .i64 (wrongM np fr p 21 a b : Int)) ∧ Fr (fun _ => False) w w' := by
  have HW := hide (wrongM_at np fr p 21 a b (by omega) (by omega))
  rw [show (((21 : Nat) : Int)) = 21 from rfl] at HW
  generalize wrongM np fr p 21 a b = R at *
  have HT : Hid (True = True) := rfl
  clear _hpb _hfr
  by_cases hb : b = 0
  · subst hb
    go_enter Try.func28, Try.ntmps28
    go_wp2_with (first
      | (go_at_call 37; refine (rnamed_any 21 _ (by omega) (by omega)).mono ?_; rintro e w' ⟨rfl, hw'⟩; replace hw' := hw'.symm; subst hw')
      | (go_at_call 19; refine (rin_any _ _ _).mono ?_; rintro e w' ⟨rfl, hw'⟩; replace hw' := hw'.symm; subst hw'; rw [HT.out]))
    go_ret
    exact ⟨retI (by rw [HW.out]; simp [nA, nB, thr]), (by repeat (first | exact Fr.refl _ _ | apply Fr.alloc | apply Fr.drew | apply Fr.drewN))⟩
  · have nb : (b != 0) = true := by rw [bne_iff_ne]; exact hb
    have HB := hide hb
    clear hb
    go_enter Try.func28, Try.ntmps28
    go_wp2_with (first
      | (go_at_call 37; refine (rnamed_any 21 _ (by omega) (by omega)).mono ?_; rintro e w' ⟨rfl, hw'⟩; replace hw' := hw'.symm; subst hw')
      | (go_at_call 19; refine (rin_any _ _ _).mono ?_; rintro e w' ⟨rfl, hw'⟩; replace hw' := hw'.symm; subst hw'; rw [HT.out]))
    go_ret
    exact ⟨retI (by rw [HW.out]; simp [nA, nB, HB.out]), (by repeat (first | exact Fr.refl _ _ | apply Fr.alloc | apply Fr.drew | apply Fr.drewN))⟩

set_option maxRecDepth 20000 in
set_option maxHeartbeats 2000000 in
theorem rown_1 (w : World) (so : Option Addr) (np sc : Nat) (fr : Nat → Int) (p : PR) (q : Hd) (a b : Int) (_hfr : FreesAt w so np fr) (_hs1 : np ≤ sc) (_hs2 : sc ≤ 9223372036854775807) (_hpb : PB p q) :
    Calls Try.prog 28 #[.slice so np sc, .agg #[.string q.nm, .int .i64 p.args, .int .i64 p.free, .bool p.rest, .slice q.co p.len q.cc, .slice q.ka p.nc q.kc, .slice q.na p.nn q.nc], .agg #[.int .i64 1, .int .i64 a, .int .i64 b]] w fun e w' => e = .returned (.int .i64 (wrongM np fr p 1 a b : Int)) ∧ Fr (fun _ => False) w w' := by
  have HW := hide (wrongM_at np fr p 1 a b (by omega) (by omega))
  rw [show (((1 : Nat) : Int)) = 1 from rfl] at HW
  generalize wrongM np fr p 1 a b = R at *
  have b1 := _hpb.k1
  have b2 := _hpb.n1
  have b3 := _hpb.f1
  have b4 := _hpb.f2
  clear _hpb _hfr
  obtain ⟨tt, htt⟩ : ∃ tt, isIn a 0 ((p.nc : Int) - 1) = tt := ⟨_, rfl⟩
  have HT := hide htt
  have HR : Hid (thr np p 1 a = tt) := htt
  clear htt
  by_cases hb : b = 0
  · subst hb
    cases tt
    · go_enter Try.func28, Try.ntmps28
      go_wp2_with (first
        | (go_at_call 37; refine (rnamed_any 1 _ (by omega) (by omega)).mono ?_; rintro e w' ⟨rfl, hw'⟩; replace hw' := hw'.symm; subst hw')
        | (go_at_call 19; refine (rin_any _ _ _).mono ?_; rintro e w' ⟨rfl, hw'⟩; replace hw' := hw'.symm; subst hw'; rw [HT.out]))
      go_ret
      exact ⟨retI (by rw [HW.out]; simp [nA, nB, HR.out]), (by repeat (first | exact Fr.refl _ _ | apply Fr.alloc | apply Fr.drew | apply Fr.drewN))⟩
    · go_enter Try.func28, Try.ntmps28
      go_wp2_with (first
        | (go_at_call 37; refine (rnamed_any 1 _ (by omega) (by omega)).mono ?_; rintro e w' ⟨rfl, hw'⟩; replace hw' := hw'.symm; subst hw')
        | (go_at_call 19; refine (rin_any _ _ _).mono ?_; rintro e w' ⟨rfl, hw'⟩; replace hw' := hw'.symm; subst hw'; rw [HT.out]))
      go_ret
      exact ⟨retI (by rw [HW.out]; simp [nA, nB, HR.out, show thr np p 0 0 = true from rfl]), (by repeat (first | exact Fr.refl _ _ | apply Fr.alloc | apply Fr.drew | apply Fr.drewN))⟩
  · have nb : (b != 0) = true := by rw [bne_iff_ne]; exact hb
    have HB := hide hb
    clear hb
    go_enter Try.func28, Try.ntmps28
    go_wp2_with (first
      | (go_at_call 37; refine (rnamed_any 1 _ (by omega) (by omega)).mono ?_; rintro e w' ⟨rfl, hw'⟩; replace hw' := hw'.symm; subst hw')
      | (go_at_call 19; refine (rin_any _ _ _).mono ?_; rintro e w' ⟨rfl, hw'⟩; replace hw' := hw'.symm; subst hw'; rw [HT.out]))
    go_ret
    exact ⟨retI (by rw [HW.out]; simp [nA, nB, HB.out]), (by repeat (first | exact Fr.refl _ _ | apply Fr.alloc | apply Fr.drew | apply Fr.drewN))⟩

set_option maxRecDepth 20000 in
set_option maxHeartbeats 2000000 in
theorem rown_3 (w : World) (so : Option Addr) (np sc : Nat) (fr : Nat → Int) (p : PR) (q : Hd) (a b : Int) (_hfr : FreesAt w so np fr) (_hs1 : np ≤ sc) (_hs2 : sc ≤ 9223372036854775807) (_hpb : PB p q) :
    Calls Try.prog 28 #[.slice so np sc, .agg #[.string q.nm, .int .i64 p.args, .int .i64 p.free, .bool p.rest, .slice q.co p.len q.cc, .slice q.ka p.nc q.kc, .slice q.na p.nn q.nc], .agg #[.int .i64 3, .int .i64 a, .int .i64 b]] w fun e w' => e = .returned (.int .i64 (wrongM np fr p 3 a b : Int)) ∧ Fr (fun _ => False) w w' := by
  have HW := hide (wrongM_at np fr p 3 a b (by omega) (by omega))
  rw [show (((3 : Nat) : Int)) = 3 from rfl] at HW
  generalize wrongM np fr p 3 a b = R at *
  have b1 := _hpb.k1
  have b2 := _hpb.n1
  have b3 := _hpb.f1
  have b4 := _hpb.f2
  clear _hpb _hfr
  obtain ⟨tt, htt⟩ : ∃ tt, isIn a 0 (p.free - 1) = tt := ⟨_, rfl⟩
  have HT := hide htt
  have HR : Hid (thr np p 3 a = tt) := htt
  clear htt
  by_cases hb : b = 0
  · subst hb
    cases tt
    · go_enter Try.func28, Try.ntmps28
      go_wp2_with (first
        | (go_at_call 37; refine (rnamed_any 3 _ (by omega) (by omega)).mono ?_; rintro e w' ⟨rfl, hw'⟩; replace hw' := hw'.symm; subst hw')
        | (go_at_call 19; refine (rin_any _ _ _).mono ?_; rintro e w' ⟨rfl, hw'⟩; replace hw' := hw'.symm; subst hw'; rw [HT.out]))
      go_ret
      exact ⟨retI (by rw [HW.out]; simp [nA, nB, HR.out]), (by repeat (first | exact Fr.refl _ _ | apply Fr.alloc | apply Fr.drew | apply Fr.drewN))⟩
    · go_enter Try.func28, Try.ntmps28
      go_wp2_with (first
        | (go_at_call 37; refine (rnamed_any 3 _ (by omega) (by omega)).mono ?_; rintro e w' ⟨rfl, hw'⟩; replace hw' := hw'.symm; subst hw')
        | (go_at_call 19; refine (rin_any _ _ _).mono ?_; rintro e w' ⟨rfl, hw'⟩; replace hw' := hw'.symm; subst hw'; rw [HT.out]))
      go_ret
      exact ⟨retI (by rw [HW.out]; simp [nA, nB, HR.out, show thr np p 0 0 = true from rfl]), (by repeat (first | exact Fr.refl _ _ | apply Fr.alloc | apply Fr.drew | apply Fr.drewN))⟩
  · have nb : (b != 0) = true := by rw [bne_iff_ne]; exact hb
    have HB := hide hb
    clear hb
    go_enter Try.func28, Try.ntmps28
    go_wp2_with (first
      | (go_at_call 37; refine (rnamed_any 3 _ (by omega) (by omega)).mono ?_; rintro e w' ⟨rfl, hw'⟩; replace hw' := hw'.symm; subst hw')
      | (go_at_call 19; refine (rin_any _ _ _).mono ?_; rintro e w' ⟨rfl, hw'⟩; replace hw' := hw'.symm; subst hw'; rw [HT.out]))
    go_ret
    exact ⟨retI (by rw [HW.out]; simp [nA, nB, HB.out]), (by repeat (first | exact Fr.refl _ _ | apply Fr.alloc | apply Fr.drew | apply Fr.drewN))⟩

set_option maxRecDepth 20000 in
set_option maxHeartbeats 2000000 in
theorem rown_4 (w : World) (so : Option Addr) (np sc : Nat) (fr : Nat → Int) (p : PR) (q : Hd) (a b : Int) (_hfr : FreesAt w so np fr) (_hs1 : np ≤ sc) (_hs2 : sc ≤ 9223372036854775807) (_hpb : PB p q) :
    Calls Try.prog 28 #[.slice so np sc, .agg #[.string q.nm, .int .i64 p.args, .int .i64 p.free, .bool p.rest, .slice q.co p.len q.cc, .slice q.ka p.nc q.kc, .slice q.na p.nn q.nc], .agg #[.int .i64 4, .int .i64 a, .int .i64 b]] w fun e w' => e = .returned (.int .i64 (wrongM np fr p 4 a b : Int)) ∧ Fr (fun _ => False) w w' := by
  have HW := hide (wrongM_at np fr p 4 a b (by omega) (by omega))
  rw [show (((4 : Nat) : Int)) = 4 from rfl] at HW
  generalize wrongM np fr p 4 a b = R at *
  have b1 := _hpb.k1
  have b2 := _hpb.n1
  have b3 := _hpb.f1
  have b4 := _hpb.f2
  clear _hpb _hfr
  obtain ⟨tt, htt⟩ : ∃ tt, isIn a 0 ((p.nn : Int) - 1) = tt := ⟨_, rfl⟩
  have HT := hide htt
  have HR : Hid (thr np p 4 a = tt) := htt
  clear htt
  by_cases hb : b = 0
  · subst hb
    cases tt
    · go_enter Try.func28, Try.ntmps28
      go_wp2_with (first
        | (go_at_call 37; refine (rnamed_any 4 _ (by omega) (by omega)).mono ?_; rintro e w' ⟨rfl, hw'⟩; replace hw' := hw'.symm; subst hw')
        | (go_at_call 19; refine (rin_any _ _ _).mono ?_; rintro e w' ⟨rfl, hw'⟩; replace hw' := hw'.symm; subst hw'; rw [HT.out]))
      go_ret
      exact ⟨retI (by rw [HW.out]; simp [nA, nB, HR.out]), (by repeat (first | exact Fr.refl _ _ | apply Fr.alloc | apply Fr.drew | apply Fr.drewN))⟩
    · go_enter Try.func28, Try.ntmps28
      go_wp2_with (first
        | (go_at_call 37; refine (rnamed_any 4 _ (by omega) (by omega)).mono ?_; rintro e w' ⟨rfl, hw'⟩; replace hw' := hw'.symm; subst hw')
        | (go_at_call 19; refine (rin_any _ _ _).mono ?_; rintro e w' ⟨rfl, hw'⟩; replace hw' := hw'.symm; subst hw'; rw [HT.out]))
      go_ret
      exact ⟨retI (by rw [HW.out]; simp [nA, nB, HR.out, show thr np p 0 0 = true from rfl]), (by repeat (first | exact Fr.refl _ _ | apply Fr.alloc | apply Fr.drew | apply Fr.drewN))⟩
  · have nb : (b != 0) = true := by rw [bne_iff_ne]; exact hb
    have HB := hide hb
    clear hb
    go_enter Try.func28, Try.ntmps28
    go_wp2_with (first
      | (go_at_call 37; refine (rnamed_any 4 _ (by omega) (by omega)).mono ?_; rintro e w' ⟨rfl, hw'⟩; replace hw' := hw'.symm; subst hw')
      | (go_at_call 19; refine (rin_any _ _ _).mono ?_; rintro e w' ⟨rfl, hw'⟩; replace hw' := hw'.symm; subst hw'; rw [HT.out]))
    go_ret
    exact ⟨retI (by rw [HW.out]; simp [nA, nB, HB.out]), (by repeat (first | exact Fr.refl _ _ | apply Fr.alloc | apply Fr.drew | apply Fr.drewN))⟩

set_option maxRecDepth 20000 in
set_option maxHeartbeats 2000000 in
theorem rown_5 (w : World) (so : Option Addr) (np sc : Nat) (fr : Nat → Int) (p : PR) (q : Hd) (a b : Int) (_hfr : FreesAt w so np fr) (_hs1 : np ≤ sc) (_hs2 : sc ≤ 9223372036854775807) (_hpb : PB p q) :
    Calls Try.prog 28 #[.slice so np sc, .agg #[.string q.nm, .int .i64 p.args, .int .i64 p.free, .bool p.rest, .slice q.co p.len q.cc, .slice q.ka p.nc q.kc, .slice q.na p.nn q.nc], .agg #[.int .i64 5, .int .i64 a, .int .i64 b]] w fun e w' => e = .returned (.int .i64 (wrongM np fr p 5 a b : Int)) ∧ Fr (fun _ => False) w w' := by
  have HW := hide (wrongM_at np fr p 5 a b (by omega) (by omega))
  rw [show (((5 : Nat) : Int)) = 5 from rfl] at HW
  generalize wrongM np fr p 5 a b = R at *
  have b1 := _hpb.k1
  have b2 := _hpb.n1
  have b3 := _hpb.f1
  have b4 := _hpb.f2
  clear _hpb _hfr
  obtain ⟨tt, htt⟩ : ∃ tt, isIn a 0 ((p.nn : Int) - 1) = tt := ⟨_, rfl⟩
  have HT := hide htt
  have HR : Hid (thr np p 4 a = tt) := htt
  clear htt
  by_cases hb : b = 0
  · subst hb
    cases tt
    · go_enter Try.func28, Try.ntmps28
      go_wp2_with (first
        | (go_at_call 37; refine (rnamed_any 5 _ (by omega) (by omega)).mono ?_; rintro e w' ⟨rfl, hw'⟩; replace hw' := hw'.symm; subst hw')
        | (go_at_call 19; refine (rin_any _ _ _).mono ?_; rintro e w' ⟨rfl, hw'⟩; replace hw' := hw'.symm; subst hw'; rw [HT.out]))
      go_ret
      exact ⟨retI (by rw [HW.out]; simp [nA, nB, HR.out]), (by repeat (first | exact Fr.refl _ _ | apply Fr.alloc | apply Fr.drew | apply Fr.drewN))⟩
    · go_enter Try.func28, Try.ntmps28
      go_wp2_with (first
        | (go_at_call 37; refine (rnamed_any 5 _ (by omega) (by omega)).mono ?_; rintro e w' ⟨rfl, hw'⟩; replace hw' := hw'.symm; subst hw')
        | (go_at_call 19; refine (rin_any _ _ _).mono ?_; rintro e w' ⟨rfl, hw'⟩; replace hw' := hw'.symm; subst hw'; rw [HT.out]))
      go_ret
      exact ⟨retI (by rw [HW.out]; simp [nA, nB, HR.out, show thr np p 0 0 = true from rfl]), (by repeat (first | exact Fr.refl _ _ | apply Fr.alloc | apply Fr.drew | apply Fr.drewN))⟩
  · have nb : (b != 0) = true := by rw [bne_iff_ne]; exact hb
    have HB := hide hb
    clear hb
    go_enter Try.func28, Try.ntmps28
    go_wp2_with (first
      | (go_at_call 37; refine (rnamed_any 5 _ (by omega) (by omega)).mono ?_; rintro e w' ⟨rfl, hw'⟩; replace hw' := hw'.symm; subst hw')
      | (go_at_call 19; refine (rin_any _ _ _).mono ?_; rintro e w' ⟨rfl, hw'⟩; replace hw' := hw'.symm; subst hw'; rw [HT.out]))
    go_ret
    exact ⟨retI (by rw [HW.out]; simp [nA, nB, HB.out]), (by repeat (first | exact Fr.refl _ _ | apply Fr.alloc | apply Fr.drew | apply Fr.drewN))⟩

set_option maxRecDepth 20000 in
set_option maxHeartbeats 2000000 in
theorem rown_6 (w : World) (so : Option Addr) (np sc : Nat) (fr : Nat → Int) (p : PR) (q : Hd) (a b : Int) (_hfr : FreesAt w so np fr) (_hs1 : np ≤ sc) (_hs2 : sc ≤ 9223372036854775807) (_hpb : PB p q) :
    Calls Try.prog 28 #[.slice so np sc, .agg #[.string q.nm, .int .i64 p.args, .int .i64 p.free, .bool p.rest, .slice q.co p.len q.cc, .slice q.ka p.nc q.kc, .slice q.na p.nn q.nc], .agg #[.int .i64 6, .int .i64 a, .int .i64 b]] w fun e w' => e = .returned (.int .i64 (wrongM np fr p 6 a b : Int)) ∧ Fr (fun _ => False) w w' := by
  have HW := hide (wrongM_at np fr p 6 a b (by omega) (by omega))
  rw [show (((6 : Nat) : Int)) = 6 from rfl] at HW
  generalize wrongM np fr p 6 a b = R at *
  have b1 := _hpb.k1
  have b2 := _hpb.n1
  have b3 := _hpb.f1
  have b4 := _hpb.f2
  clear _hpb _hfr
  obtain ⟨tt, htt⟩ : ∃ tt, isIn a 0 ((p.nn : Int) - 1) = tt := ⟨_, rfl⟩
  have HT := hide htt
  have HR : Hid (thr np p 4 a = tt) := htt
  clear htt
  by_cases hb : b = 0
  · subst hb
    cases tt
    · go_enter Try.func28, Try.ntmps28
      go_wp2_with (first
        | (go_at_call 37; refine (rnamed_any 6 _ (by omega) (by omega)).mono ?_; rintro e w' ⟨rfl, hw'⟩; replace hw' := hw'.symm; subst hw')
        | (go_at_call 19; refine (rin_any _ _ _).mono ?_; rintro e w' ⟨rfl, hw'⟩; replace hw' := hw'.symm; subst hw'; rw [HT.out]))
      go_ret
      exact ⟨retI (by rw [HW.out]; simp [nA, nB, HR.out]), (by repeat (first | exact Fr.refl _ _ | apply Fr.alloc | apply Fr.drew | apply Fr.drewN))⟩
    · go_enter Try.func28, Try.ntmps28
      go_wp2_with (first
        | (go_at_call 37; refine (rnamed_any 6 _ (by omega) (by omega)).mono ?_; rintro e w' ⟨rfl, hw'⟩; replace hw' := hw'.symm; subst hw')
        | (go_at_call 19; refine (rin_any _ _ _).mono ?_; rintro e w' ⟨rfl, hw'⟩; replace hw' := hw'.symm; subst hw'; rw [HT.out]))
      go_ret
      exact ⟨retI (by rw [HW.out]; simp [nA, nB, HR.out, show thr np p 0 0 = true from rfl]), (by repeat (first | exact Fr.refl _ _ | apply Fr.alloc | apply Fr.drew | apply Fr.drewN))⟩
  · have nb : (b != 0) = true := by rw [bne_iff_ne]; exact hb
    have HB := hide hb
    clear hb
    go_enter Try.func28, Try.ntmps28
    go_wp2_with (first
      | (go_at_call 37; refine (rnamed_any 6 _ (by omega) (by omega)).mono ?_; rintro e w' ⟨rfl, hw'⟩; replace hw' := hw'.symm; subst hw')
      | (go_at_call 19; refine (rin_any _ _ _).mono ?_; rintro e w' ⟨rfl, hw'⟩; replace hw' := hw'.symm; subst hw'; rw [HT.out]))
    go_ret
    exact ⟨retI (by rw [HW.out]; simp [nA, nB, HB.out]), (by repeat (first | exact Fr.refl _ _ | apply Fr.alloc | apply Fr.drew | apply Fr.drewN))⟩

set_option maxRecDepth 20000 in
set_option maxHeartbeats 2000000 in
theorem rown_11 (w : World) (so : Option Addr) (np sc : Nat) (fr : Nat → Int) (p : PR) (q : Hd) (a b : Int) (_hfr : FreesAt w so np fr) (_hs1 : np ≤ sc) (_hs2 : sc ≤ 9223372036854775807) (_hpb : PB p q) :
    Calls Try.prog 28 #[.slice so np sc, .agg #[.string q.nm, .int .i64 p.args, .int .i64 p.free, .bool p.rest, .slice q.co p.len q.cc, .slice q.ka p.nc q.kc, .slice q.na p.nn q.nc], .agg #[.int .i64 11, .int .i64 a, .int .i64 b]] w fun e w' => e = .returned (.int .i64 (wrongM np fr p 11 a b : Int)) ∧ Fr (fun _ => False) w w' := by
  have HW := hide (wrongM_at np fr p 11 a b (by omega) (by omega))
  rw [show (((11 : Nat) : Int)) = 11 from rfl] at HW
  generalize wrongM np fr p 11 a b = R at *
  have b1 := _hpb.k1
  have b2 := _hpb.n1
  have b3 := _hpb.f1
  have b4 := _hpb.f2
  clear _hpb _hfr
  obtain ⟨tt, htt⟩ : ∃ tt, isIn a 0 (65 - 1) = tt := ⟨_, rfl⟩
  have HT := hide htt
  have HR : Hid (thr np p 8 a = tt) := htt
  clear htt
  by_cases hb : b = 0
  · subst hb
    cases tt
    · go_enter Try.func28, Try.ntmps28
      go_wp2_with (first
        | (go_at_call 37; refine (rnamed_any 11 _ (by omega) (by omega)).mono ?_; rintro e w' ⟨rfl, hw'⟩; replace hw' := hw'.symm; subst hw')
        | (go_at_call 19; refine (rin_any _ _ _).mono ?_; rintro e w' ⟨rfl, hw'⟩; replace hw' := hw'.symm; subst hw'; rw [HT.out]))
      go_ret
      exact ⟨retI (by rw [HW.out]; simp [nA, nB, HR.out]), (by repeat (first | exact Fr.refl _ _ | apply Fr.alloc | apply Fr.drew | apply Fr.drewN))⟩
    · go_enter Try.func28, Try.ntmps28
      go_wp2_with (first
        | (go_at_call 37; refine (rnamed_any 11 _ (by omega) (by omega)).mono ?_; rintro e w' ⟨rfl, hw'⟩; replace hw' := hw'.symm; subst hw')
        | (go_at_call 19; refine (rin_any _ _ _).mono ?_; rintro e w' ⟨rfl, hw'⟩; replace hw' := hw'.symm; subst hw'; rw [HT.out]))
      go_ret
      exact ⟨retI (by rw [HW.out]; simp [nA, nB, HR.out, show thr np p 0 0 = true from rfl]), (by repeat (first | exact Fr.refl _ _ | apply Fr.alloc | apply Fr.drew | apply Fr.drewN))⟩
  · have nb : (b != 0) = true := by rw [bne_iff_ne]; exact hb
    have HB := hide hb
    clear hb
    go_enter Try.func28, Try.ntmps28
    go_wp2_with (first
      | (go_at_call 37; refine (rnamed_any 11 _ (by omega) (by omega)).mono ?_; rintro e w' ⟨rfl, hw'⟩; replace hw' := hw'.symm; subst hw')
      | (go_at_call 19; refine (rin_any _ _ _).mono ?_; rintro e w' ⟨rfl, hw'⟩; replace hw' := hw'.symm; subst hw'; rw [HT.out]))
    go_ret
    exact ⟨retI (by rw [HW.out]; simp [nA, nB, HB.out]), (by repeat (first | exact Fr.refl _ _ | apply Fr.alloc | apply Fr.drew | apply Fr.drewN))⟩

set_option maxRecDepth 20000 in
set_option maxHeartbeats 2000000 in
theorem rown_12 (w : World) (so : Option Addr) (np sc : Nat) (fr : Nat → Int) (p : PR) (q : Hd) (a b : Int) (_hfr : FreesAt w so np fr) (_hs1 : np ≤ sc) (_hs2 : sc ≤ 9223372036854775807) (_hpb : PB p q) :
    Calls Try.prog 28 #[.slice so np sc, .agg #[.string q.nm, .int .i64 p.args, .int .i64 p.free, .bool p.rest, .slice q.co p.len q.cc, .slice q.ka p.nc q.kc, .slice q.na p.nn q.nc], .agg #[.int .i64 12, .int .i64 a, .int .i64 b]] w fun e w' => e = .returned (.int .i64 (wrongM np fr p 12 a b : Int)) ∧ Fr (fun _ => False) w w' := by
  have HW := hide (wrongM_at np fr p 12 a b (by omega) (by omega))
  rw [show (((12 : Nat) : Int)) = 12 from rfl] at HW
  generalize wrongM np fr p 12 a b = R at *
  have b1 := _hpb.k1
  have b2 := _hpb.n1
  have b3 := _hpb.f1
  have b4 := _hpb.f2
  clear _hpb _hfr
  obtain ⟨tt, htt⟩ : ∃ tt, isIn a 0 (65 - 1) = tt := ⟨_, rfl⟩
  have HT := hide htt
  have HR : Hid (thr np p 8 a = tt) := htt
  clear htt
  by_cases hb : b = 0
  · subst hb
    cases tt
    · go_enter Try.func28, Try.ntmps28
      go_wp2_with (first
        | (go_at_call 37; refine (rnamed_any 12 _ (by omega) (by omega)).mono ?_; rintro e w' ⟨rfl, hw'⟩; replace hw' := hw'.symm; subst hw')
        | (go_at_call 19; refine (rin_any _ _ _).mono ?_; rintro e w' ⟨rfl, hw'⟩; replace hw' := hw'.symm; subst hw'; rw [HT.out]))
      go_ret
      exact ⟨retI (by rw [HW.out]; simp [nA, nB, HR.out]), (by repeat (first | exact Fr.refl _ _ | apply Fr.alloc | apply Fr.drew | apply Fr.drewN))⟩
    · go_enter Try.func28, Try.ntmps28
      go_wp2_with (first
        | (go_at_call 37; refine (rnamed_any 12 _ (by omega) (by omega)).mono ?_; rintro e w' ⟨rfl, hw'⟩; replace hw' := hw'.symm; subst hw')
        | (go_at_call 19; refine (rin_any _ _ _).mono ?_; rintro e w' ⟨rfl, hw'⟩; replace hw' := hw'.symm; subst hw'; rw [HT.out]))
      go_ret
      exact ⟨retI (by rw [HW.out]; simp [nA, nB, HR.out, show thr np p 0 0 = true from rfl]), (by repeat (first | exact Fr.refl _ _ | apply Fr.alloc | apply Fr.drew | apply Fr.drewN))⟩
  · have nb : (b != 0) = true := by rw [bne_iff_ne]; exact hb
    have HB := hide hb
    clear hb
    go_enter Try.func28, Try.ntmps28
    go_wp2_with (first
      | (go_at_call 37; refine (rnamed_any 12 _ (by omega) (by omega)).mono ?_; rintro e w' ⟨rfl, hw'⟩; replace hw' := hw'.symm; subst hw')
      | (go_at_call 19; refine (rin_any _ _ _).mono ?_; rintro e w' ⟨rfl, hw'⟩; replace hw' := hw'.symm; subst hw'; rw [HT.out]))
    go_ret
    exact ⟨retI (by rw [HW.out]; simp [nA, nB, HB.out]), (by repeat (first | exact Fr.refl _ _ | apply Fr.alloc | apply Fr.drew | apply Fr.drewN))⟩

set_option maxRecDepth 20000 in
set_option maxHeartbeats 2000000 in
theorem rown_18 (w : World) (so : Option Addr) (np sc : Nat) (fr : Nat → Int) (p : PR) (q : Hd) (a b : Int) (_hfr : FreesAt w so np fr) (_hs1 : np ≤ sc) (_hs2 : sc ≤ 9223372036854775807) (_hpb : PB p q) :
    Calls Try.prog 28 #[.slice so np sc, .agg #[.string q.nm, .int .i64 p.args, .int .i64 p.free, .bool p.rest, .slice q.co p.len q.cc, .slice q.ka p.nc q.kc, .slice q.na p.nn q.nc], .agg #[.int .i64 18, .int .i64 a, .int .i64 b]] w fun e w' => e = .returned (.int .i64 (wrongM np fr p 18 a b : Int)) ∧ Fr (fun _ => False) w w' := by
  have HW := hide (wrongM_at np fr p 18 a b (by omega) (by omega))
  rw [show (((18 : Nat) : Int)) = 18 from rfl] at HW
  generalize wrongM np fr p 18 a b = R at *
  have b1 := _hpb.k1
  have b2 := _hpb.n1
  have b3 := _hpb.f1
  have b4 := _hpb.f2
  clear _hpb _hfr
  obtain ⟨tt, htt⟩ : ∃ tt, isIn a 0 (4097 - 1) = tt := ⟨_, rfl⟩
  have HT := hide htt
  have HR : Hid (thr np p 9 a = tt) := htt
  clear htt
  by_cases hb : b = 0
  · subst hb
    cases tt
    · go_enter Try.func28, Try.ntmps28
      go_wp2_with (first
        | (go_at_call 37; refine (rnamed_any 18 _ (by omega) (by omega)).mono ?_; rintro e w' ⟨rfl, hw'⟩; replace hw' := hw'.symm; subst hw')
        | (go_at_call 19; refine (rin_any _ _ _).mono ?_; rintro e w' ⟨rfl, hw'⟩; replace hw' := hw'.symm; subst hw'; rw [HT.out]))
      go_ret
      exact ⟨retI (by rw [HW.out]; simp [nA, nB, HR.out]), (by repeat (first | exact Fr.refl _ _ | apply Fr.alloc | apply Fr.drew | apply Fr.drewN))⟩
    · go_enter Try.func28, Try.ntmps28
      go_wp2_with (first
        | (go_at_call 37; refine (rnamed_any 18 _ (by omega) (by omega)).mono ?_; rintro e w' ⟨rfl, hw'⟩; replace hw' := hw'.symm; subst hw')
        | (go_at_call 19; refine (rin_any _ _ _).mono ?_; rintro e w' ⟨rfl, hw'⟩; replace hw' := hw'.symm; subst hw'; rw [HT.out]))
      go_ret
      exact ⟨retI (by rw [HW.out]; simp [nA, nB, HR.out, show thr np p 0 0 = true from rfl]), (by repeat (first | exact Fr.refl _ _ | apply Fr.alloc | apply Fr.drew | apply Fr.drewN))⟩
  · have nb : (b != 0) = true := by rw [bne_iff_ne]; exact hb
    have HB := hide hb
    clear hb
    go_enter Try.func28, Try.ntmps28
    go_wp2_with (first
      | (go_at_call 37; refine (rnamed_any 18 _ (by omega) (by omega)).mono ?_; rintro e w' ⟨rfl, hw'⟩; replace hw' := hw'.symm; subst hw')
      | (go_at_call 19; refine (rin_any _ _ _).mono ?_; rintro e w' ⟨rfl, hw'⟩; replace hw' := hw'.symm; subst hw'; rw [HT.out]))
    go_ret
    exact ⟨retI (by rw [HW.out]; simp [nA, nB, HB.out]), (by repeat (first | exact Fr.refl _ _ | apply Fr.alloc | apply Fr.drew | apply Fr.drewN))⟩

end Go.Proofs.Ytmogglmofbbjlaa
