/-
  What is proved here: a heap's calls that read one object, and those that set a field.
-/
import Derived.Test.YtchdfenickjiiaaHHeap
namespace Go.Proofs.Ytchdfenickjiiaa
open Go Go.RowKit

theorem HeapIn.ptrlt {w : World} {hb : Nat} {X : Nat → Prop} {sz : Nat} {tm : Int} {n : Nat} {f : Nat → Nat} {st : Nat → Bool} {i : Nat} {v u v' u' : Value} {m : Nat} {s : Nat → Nat} {n' : Nat} {f' : Nat → Nat} {m' : Nat} {s' : Nat → Nat} (h : HeapIn w hb X sz tm n f st i v u v' u' m s n' f' m' s') {x : Nat} (hp : isPtr st x = true) : x / 4 < n ∧ f (x / 4) < 18446744073709551616 := by
  have := h.good.lt (isPtr_st hp).1
  exact ⟨this, h.fb _ this⟩

set_option maxRecDepth 20000 in
theorem heapKind_any (w : World) (hb : Nat) (X : Nat → Prop) (sz : Nat) (tm : Int) (n : Nat) (f : Nat → Nat) (st : Nat → Bool) (x : Nat) (h : HeapAt w hb X sz tm n f st) (hx : x < 18446744073709551616) :
    Calls Try.prog 95 #[.pointer (some ⟨hb, 0, none⟩), .int .u64 (x : Int)] w fun e w' => e = .returned (.int .i64 (hKind (headOf f st x) : Int)) ∧ ∃ q, w' = w.drewN q := by
  obtain ⟨i, v, u, v', u', m, s, n', f', m', s', h⟩ := h
  have K := now_any w hb i v u v' u' sz tm h.i1 h.a.blk
  have hp := h.ptr x
  cases hc : isPtr st x with
  | true =>
    rw [hc] at hp
    obtain ⟨hlt, hfb⟩ := h.ptrlt hc
    rw [headOf_yes hc]
    go_enter Try.func95, Try.ntmps95
    go_wp2_with (first | (go_at_call 60; refine K.mono ?_; rintro e w' ⟨rfl, q, rfl⟩) | (go_at_call 75; refine (object_yes 134 _ _ _ _ v u n f m s _ (x / 4) (h.a.drewN _) (by have := h.ml; omega) h.sb hx hp rfl hlt).mono ?_; rintro e w' ⟨rfl, q2, rfl⟩) | (go_at_call 123; refine (kind_any _ _ hfb).mono ?_; rintro e w' ⟨rfl, rfl⟩))
    go_ret
    exact ⟨rfl, _, rfl⟩
  | false =>
    rw [hc] at hp
    rw [headOf_no hc]
    go_enter Try.func95, Try.ntmps95
    go_wp2_with (first | (go_at_call 60; refine K.mono ?_; rintro e w' ⟨rfl, q, rfl⟩) | (go_at_call 75; refine (object_no 134 _ _ _ _ v u n f m s _ (h.a.drewN _) (by have := h.ml; omega) h.sb hx hp).mono ?_; rintro e w' ⟨rfl, rfl⟩) | (go_at_call 123; refine (kind_any 0 _ (by decide)).mono ?_; rintro e w' ⟨rfl, rfl⟩))
    go_ret
    exact ⟨rfl, _, rfl⟩

set_option maxRecDepth 20000 in
theorem heapTagged_any (w : World) (hb : Nat) (X : Nat → Prop) (sz : Nat) (tm : Int) (n : Nat) (f : Nat → Nat) (st : Nat → Bool) (x : Nat) (h : HeapAt w hb X sz tm n f st) (hx : x < 18446744073709551616) :
    Calls Try.prog 34 #[.pointer (some ⟨hb, 0, none⟩), .int .u64 (x : Int)] w fun e w' => e = .returned (.int .i64 (hTag (headOf f st x) : Int)) ∧ ∃ q, w' = w.drewN q := by
  obtain ⟨i, v, u, v', u', m, s, n', f', m', s', h⟩ := h
  have K := now_any w hb i v u v' u' sz tm h.i1 h.a.blk
  have hp := h.ptr x
  cases hc : isPtr st x with
  | true =>
    rw [hc] at hp
    obtain ⟨hlt, hfb⟩ := h.ptrlt hc
    rw [headOf_yes hc]
    go_enter Try.func34, Try.ntmps34
    go_wp2_with (first | (go_at_call 60; refine K.mono ?_; rintro e w' ⟨rfl, q, rfl⟩) | (go_at_call 75; refine (object_yes 134 _ _ _ _ v u n f m s _ (x / 4) (h.a.drewN _) (by have := h.ml; omega) h.sb hx hp rfl hlt).mono ?_; rintro e w' ⟨rfl, q2, rfl⟩) | (go_at_call 76; refine (tagged_any _ _ hfb).mono ?_; rintro e w' ⟨rfl, rfl⟩))
    go_ret
    exact ⟨rfl, _, rfl⟩
  | false =>
    rw [hc] at hp
    rw [headOf_no hc]
    go_enter Try.func34, Try.ntmps34
    go_wp2_with (first | (go_at_call 60; refine K.mono ?_; rintro e w' ⟨rfl, q, rfl⟩) | (go_at_call 75; refine (object_no 134 _ _ _ _ v u n f m s _ (h.a.drewN _) (by have := h.ml; omega) h.sb hx hp).mono ?_; rintro e w' ⟨rfl, rfl⟩) | (go_at_call 76; refine (tagged_any 0 _ (by decide)).mono ?_; rintro e w' ⟨rfl, rfl⟩))
    go_ret
    exact ⟨rfl, _, rfl⟩

set_option maxRecDepth 20000 in
theorem heapRaws_any (w : World) (hb : Nat) (X : Nat → Prop) (sz : Nat) (tm : Int) (n : Nat) (f : Nat → Nat) (st : Nat → Bool) (x : Nat) (h : HeapAt w hb X sz tm n f st) (hx : x < 18446744073709551616) :
    Calls Try.prog 71 #[.pointer (some ⟨hb, 0, none⟩), .int .u64 (x : Int)] w fun e w' => e = .returned (.int .i64 (hRaw (headOf f st x) : Int)) ∧ ∃ q, w' = w.drewN q := by
  obtain ⟨i, v, u, v', u', m, s, n', f', m', s', h⟩ := h
  have K := now_any w hb i v u v' u' sz tm h.i1 h.a.blk
  have hp := h.ptr x
  cases hc : isPtr st x with
  | true =>
    rw [hc] at hp
    obtain ⟨hlt, hfb⟩ := h.ptrlt hc
    rw [headOf_yes hc]
    go_enter Try.func71, Try.ntmps71
    go_wp2_with (first | (go_at_call 60; refine K.mono ?_; rintro e w' ⟨rfl, q, rfl⟩) | (go_at_call 75; refine (object_yes 134 _ _ _ _ v u n f m s _ (x / 4) (h.a.drewN _) (by have := h.ml; omega) h.sb hx hp rfl hlt).mono ?_; rintro e w' ⟨rfl, q2, rfl⟩) | (go_at_call 107; refine (raws_any _ _ hfb).mono ?_; rintro e w' ⟨rfl, rfl⟩))
    go_ret
    exact ⟨rfl, _, rfl⟩
  | false =>
    rw [hc] at hp
    rw [headOf_no hc]
    go_enter Try.func71, Try.ntmps71
    go_wp2_with (first | (go_at_call 60; refine K.mono ?_; rintro e w' ⟨rfl, q, rfl⟩) | (go_at_call 75; refine (object_no 134 _ _ _ _ v u n f m s _ (h.a.drewN _) (by have := h.ml; omega) h.sb hx hp).mono ?_; rintro e w' ⟨rfl, rfl⟩) | (go_at_call 107; refine (raws_any 0 _ (by decide)).mono ?_; rintro e w' ⟨rfl, rfl⟩))
    go_ret
    exact ⟨rfl, _, rfl⟩

set_option maxRecDepth 20000 in
theorem geth_out (w : World) (hb : Nat) (X : Nat → Prop) (sz : Nat) (tm : Int) (n : Nat) (f : Nat → Nat) (st : Nat → Bool) (x : Nat) (j : Int) (h : HeapAt w hb X sz tm n f st) (hx : x < 18446744073709551616) (hj : j < 0 ∨ (hTag (headOf f st x) : Int) ≤ j) :
    Calls Try.prog 35 #[.pointer (some ⟨hb, 0, none⟩), .int .u64 (x : Int), .int .i64 j] w fun e w' => e = .returned (.tuple #[.int .u64 0, .bool false]) ∧ ∃ q, w' = w.drewN q := by
  obtain ⟨i, v, u, v', u', m, s, n', f', m', s', h⟩ := h
  have K := now_any w hb i v u v' u' sz tm h.i1 h.a.blk
  have hp := h.ptr x
  cases hc : isPtr st x with
  | true =>
    rw [hc] at hp
    obtain ⟨hlt, hfb⟩ := h.ptrlt hc
    rw [headOf_yes hc] at hj
    go_enter Try.func35, Try.ntmps35
    go_wp2_with (first | (go_at_call 60; refine K.mono ?_; rintro e w' ⟨rfl, q, rfl⟩) | (go_at_call 77; refine (tfield_out 134 _ _ _ _ v u n f m s _ (x / 4) _ (h.a.drewN _) (by have := h.ml; omega) h.sb hx hp rfl hlt hfb hj).mono ?_; rintro e w' ⟨rfl, q2, rfl⟩))
    go_ret2
    exact ⟨rfl, _, rfl⟩
  | false =>
    rw [hc] at hp
    go_enter Try.func35, Try.ntmps35
    go_wp2_with (first | (go_at_call 60; refine K.mono ?_; rintro e w' ⟨rfl, q, rfl⟩) | (go_at_call 77; refine (tfield_none 134 _ _ _ _ v u n f m s _ _ (h.a.drewN _) (by have := h.ml; omega) h.sb hx hp).mono ?_; rintro e w' ⟨rfl, q2, rfl⟩))
    go_ret2
    exact ⟨rfl, _, rfl⟩

set_option maxRecDepth 20000 in
theorem geth_in (w : World) (hb : Nat) (X : Nat → Prop) (sz : Nat) (tm : Int) (n : Nat) (f : Nat → Nat) (st : Nat → Bool) (x j : Nat) (h : HeapAt w hb X sz tm n f st) (hx : x < 18446744073709551616) (hc : isPtr st x = true) (hj : j < hTag (f (x / 4))) :
    Calls Try.prog 35 #[.pointer (some ⟨hb, 0, none⟩), .int .u64 (x : Int), .int .i64 (j : Int)] w fun e w' => e = .returned (.tuple #[.int .u64 (f (x / 4 + 1 + j) : Int), .bool true]) ∧ ∃ q, w' = w.drewN q := by
  obtain ⟨i, v, u, v', u', m, s, n', f', m', s', h⟩ := h
  have K := now_any w hb i v u v' u' sz tm h.i1 h.a.blk
  have hp := h.ptr x
  rw [hc] at hp
  obtain ⟨hlt, hfb⟩ := h.ptrlt hc
  have hin := (h.good.inn _ (isPtr_st hc).1).2
  have hz := h.z
  have hnz := h.nz
  have hL : hLen (f (x / 4)) = 1 + hTag (f (x / 4)) + hRaw (f (x / 4)) := rfl
  have hin2 : x / 4 + 1 + j < n := by omega
  obtain ⟨g, cap, rfl, hc1, hc2, hcl⟩ := h.a.ov.rd hin2
  go_enter Try.func35, Try.ntmps35
  go_wp2_with (first | (go_at_call 60; refine K.mono ?_; rintro e w' ⟨rfl, q, rfl⟩) | (go_at_call 77; refine (tfield_in 134 _ _ _ _ g cap u n f m s _ (x / 4) j (h.a.drewN _) (by have := h.ml; omega) h.sb hx hp rfl hlt hfb hj hin2 (by omega) hc1 hc2).mono ?_; rintro e w' ⟨rfl, q2, rfl⟩))
  go_ret2
  exact ⟨rfl, _, rfl⟩

set_option maxRecDepth 20000 in
theorem rawh_out (w : World) (hb : Nat) (X : Nat → Prop) (sz : Nat) (tm : Int) (n : Nat) (f : Nat → Nat) (st : Nat → Bool) (x : Nat) (j : Int) (h : HeapAt w hb X sz tm n f st) (hx : x < 18446744073709551616) (hj : j < 0 ∨ (hRaw (headOf f st x) : Int) ≤ j) :
    Calls Try.prog 106 #[.pointer (some ⟨hb, 0, none⟩), .int .u64 (x : Int), .int .i64 j] w fun e w' => e = .returned (.tuple #[.int .u64 0, .bool false]) ∧ ∃ q, w' = w.drewN q := by
  obtain ⟨i, v, u, v', u', m, s, n', f', m', s', h⟩ := h
  have K := now_any w hb i v u v' u' sz tm h.i1 h.a.blk
  have hp := h.ptr x
  cases hc : isPtr st x with
  | true =>
    rw [hc] at hp
    obtain ⟨hlt, hfb⟩ := h.ptrlt hc
    rw [headOf_yes hc] at hj
    go_enter Try.func106, Try.ntmps106
    go_wp2_with (first | (go_at_call 60; refine K.mono ?_; rintro e w' ⟨rfl, q, rfl⟩) | (go_at_call 91; refine (rfield_out 134 _ _ _ _ v u n f m s _ (x / 4) _ (h.a.drewN _) (by have := h.ml; omega) h.sb hx hp rfl hlt hfb hj).mono ?_; rintro e w' ⟨rfl, q2, rfl⟩))
    go_ret2
    exact ⟨rfl, _, rfl⟩
  | false =>
    rw [hc] at hp
    go_enter Try.func106, Try.ntmps106
    go_wp2_with (first | (go_at_call 60; refine K.mono ?_; rintro e w' ⟨rfl, q, rfl⟩) | (go_at_call 91; refine (rfield_none 134 _ _ _ _ v u n f m s _ _ (h.a.drewN _) (by have := h.ml; omega) h.sb hx hp).mono ?_; rintro e w' ⟨rfl, q2, rfl⟩))
    go_ret2
    exact ⟨rfl, _, rfl⟩

set_option maxRecDepth 20000 in
theorem rawh_in (w : World) (hb : Nat) (X : Nat → Prop) (sz : Nat) (tm : Int) (n : Nat) (f : Nat → Nat) (st : Nat → Bool) (x j : Nat) (h : HeapAt w hb X sz tm n f st) (hx : x < 18446744073709551616) (hc : isPtr st x = true) (hj : j < hRaw (f (x / 4))) :
    Calls Try.prog 106 #[.pointer (some ⟨hb, 0, none⟩), .int .u64 (x : Int), .int .i64 (j : Int)] w fun e w' => e = .returned (.tuple #[.int .u64 (f (x / 4 + 1 + hTag (f (x / 4)) + j) : Int), .bool true]) ∧ ∃ q, w' = w.drewN q := by
  obtain ⟨i, v, u, v', u', m, s, n', f', m', s', h⟩ := h
  have K := now_any w hb i v u v' u' sz tm h.i1 h.a.blk
  have hp := h.ptr x
  rw [hc] at hp
  obtain ⟨hlt, hfb⟩ := h.ptrlt hc
  have hin := (h.good.inn _ (isPtr_st hc).1).2
  have hz := h.z
  have hnz := h.nz
  have hL : hLen (f (x / 4)) = 1 + hTag (f (x / 4)) + hRaw (f (x / 4)) := rfl
  have hin2 : x / 4 + 1 + hTag (f (x / 4)) + j < n := by omega
  obtain ⟨g, cap, rfl, hc1, hc2, hcl⟩ := h.a.ov.rd hin2
  go_enter Try.func106, Try.ntmps106
  go_wp2_with (first | (go_at_call 60; refine K.mono ?_; rintro e w' ⟨rfl, q, rfl⟩) | (go_at_call 91; refine (rfield_in 134 _ _ _ _ g cap u n f m s _ (x / 4) j (h.a.drewN _) (by have := h.ml; omega) h.sb hx hp rfl hlt hfb hj hin2 (by omega) hc1 hc2).mono ?_; rintro e w' ⟨rfl, q2, rfl⟩))
  go_ret2
  exact ⟨rfl, _, rfl⟩

end Go.Proofs.Ytchdfenickjiiaa
