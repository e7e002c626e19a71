/-
  What is proved here: a heap's calls that set a field, or lay an object, and a new heap.
-/
import Derived.Test.YtchdfenickjiiaaHHeap2
namespace Go.Proofs.Ytchdfenickjiiaa
open Go Go.RowKit

/-- May a word be set? -/
def may (st : Nat → Bool) (x : Nat) : Bool := x % 4 == 1 || x % 4 == 2 || isPtr st x
theorem may_3 {st : Nat → Bool} {x : Nat} (h : x % 4 = 3) : may st x = false := by simp [may, isPtr, h]
theorem may_0 {st : Nat → Bool} {x : Nat} (h : x % 4 = 0) : may st x = isPtr st x := by simp [may, h]
theorem may_1 {st : Nat → Bool} {x : Nat} (h : x % 4 ≠ 0) (h3 : x % 4 ≠ 3) : may st x = true := by
  have : x % 4 = 1 ∨ x % 4 = 2 := by omega
  rcases this with e | e <;> simp [may, e]

set_option maxRecDepth 20000 in
theorem maySet_any (w : World) (hb : Nat) (X : Nat → Prop) (sz : Nat) (tm : Int) (n : Nat) (f : Nat → Nat) (st : Nat → Bool) (x : Nat) (h : HeapAt w hb X sz tm n f st) (hx : x < 18446744073709551616) :
    Calls Try.prog 119 #[.pointer (some ⟨hb, 0, none⟩), .int .u64 (x : Int)] w fun e w' => e = .returned (.bool (may st x)) ∧ ∃ q, w' = w.drewN q := by
  have hA := and_2 x hx
  by_cases h3 : x % 4 = 3
  · rw [h3] at hA
    have hA0 : bits BinOp.and IntKind.u64 (x : Int) 3 = 3 := hA
    rw [may_3 h3]
    go_enter Try.func119, Try.ntmps119
    go_wp2
    go_ret
    exact ⟨rfl, 0, rfl⟩
  · by_cases h0 : x % 4 = 0
    · rw [h0] at hA
      have hA0 : bits BinOp.and IntKind.u64 (x : Int) 3 = 0 := hA
      rw [may_0 h0]
      go_enter Try.func119, Try.ntmps119
      go_wp2_with (go_at_call 108; refine (is_any _ _ X sz tm n f st _ h hx).mono ?_; rintro e w' ⟨rfl, q, rfl⟩)
      go_ret
      exact ⟨rfl, _, rfl⟩
    · have hr3 : (((x % 4 : Nat) : Int) == 3) = false := by rw [beq_eq_false_iff_ne]; omega
      have hr0 : (((x % 4 : Nat) : Int) == 0) = false := by rw [beq_eq_false_iff_ne]; omega
      rw [may_1 h0 h3]
      generalize ((x % 4 : Nat) : Int) = r at hA hr3 hr0
      go_enter Try.func119, Try.ntmps119
      go_wp2
      go_ret
      exact ⟨rfl, 0, rfl⟩

/-- A word of an object's field is set. -/
theorem HeapIn.put {w : World} {hb : Nat} {X : Nat → Prop} {sz : Nat} {tm : Int} {n : Nat} {f : Nat → Nat} {st : Nat → Bool} {i : Nat} {u v' u' : Value} {m : Nat} {s : Nat → Nat} {n' : Nat} {f' : Nat → Nat} {m' : Nat} {s' : Nat → Nat} {g cap : Nat} (h : HeapIn w hb X sz tm n f st i (.slice (some ⟨g, 0, none⟩) n cap) u v' u' m s n' f' m' s') {j y : Nat} (hj : j < n) (hst : st j = false) (hy : y < 18446744073709551616) :
    w.cell? ⟨g, j, none⟩ = some (.int .u64 (f j)) ∧ w.frozen? ⟨g, j, none⟩ = false ∧ HeapIn (w.setCell ⟨g, j, none⟩ (.int .u64 y)) hb X sz tm n (upd f j y) st i (.slice (some ⟨g, 0, none⟩) n cap) u v' u' m s n' f' m' s' ∧ Fr X w (w.setCell ⟨g, j, none⟩ (.int .u64 y)) := by
  have hX : X g := (h.xs g).2 (.inl (.inr (.inl rfl)))
  have hfr : Fr (fun k => k = g) w (w.setCell ⟨g, j, none⟩ (.int .u64 y)) := Fr.setCell (S := fun k => k = g) (Fr.refl _ _) (fun _ => rfl) _ _
  have hrow : RowAt .u64 22 w g cap n f := by
    rcases h.a.ov with ⟨e, _⟩ | ⟨g', cap', e, _, _, h3⟩
    · cases e
    · cases e; exact h3
  refine ⟨hrow.cell hj, hrow.free j, ⟨h.i1, h.a.setV hj y, h.b.fr hfr fun k hk e => ?_, h.far, h.marked, h.sb, h.ml, h.good.set hst, fun k hk => ?_, h.nz, h.z, h.xs⟩, Fr.setCell (Fr.refl _ _) (fun _ => hX) _ _⟩
  · subst e
    rcases hk with e | e
    · exact h.a.nv (by rw [e]; rfl)
    · exact h.far _ (.inl rfl) e
  · by_cases e : k = j
    · rw [e, upd_same]; exact hy
    · rw [upd_other e]; exact h.fb k hk

set_option maxRecDepth 20000 in
theorem set_no (w : World) (hb : Nat) (X : Nat → Prop) (sz : Nat) (tm : Int) (n : Nat) (f : Nat → Nat) (st : Nat → Bool) (x : Nat) (j : Int) (y : Nat) (h : HeapAt w hb X sz tm n f st) (hx : x < 18446744073709551616) (_hy : y < 18446744073709551616) (hj : j < 0 ∨ (hTag (headOf f st x) : Int) ≤ j) :
    Calls Try.prog 83 #[.pointer (some ⟨hb, 0, none⟩), .int .u64 (x : Int), .int .i64 j, .int .u64 (y : Int)] w fun e w' => e = .returned (.bool false) ∧ ∃ q, w' = w.drewN q := by
  obtain ⟨i, v, u, v', u', m, s, n', f', m', s', h⟩ := h
  have K := now_any w hb i v u v' u' sz tm h.i1 h.a.blk
  have hp := h.ptr x
  cases hc : isPtr st x with
  | true =>
    rw [hc] at hp
    obtain ⟨hlt, hfb⟩ := h.ptrlt hc
    rw [headOf_yes hc] at hj
    go_enter Try.func83, Try.ntmps83
    go_wp2_with (first | (go_at_call 60; refine K.mono ?_; rintro e w' ⟨rfl, q, rfl⟩) | (go_at_call 77; refine (tfield_out 134 _ _ _ _ v u n f m s _ (x / 4) _ (h.a.drewN _) (by have := h.ml; omega) h.sb hx hp rfl hlt hfb hj).mono ?_; rintro e w' ⟨rfl, q2, rfl⟩))
    go_ret
    exact ⟨rfl, _, rfl⟩
  | false =>
    rw [hc] at hp
    go_enter Try.func83, Try.ntmps83
    go_wp2_with (first | (go_at_call 60; refine K.mono ?_; rintro e w' ⟨rfl, q, rfl⟩) | (go_at_call 77; refine (tfield_none 134 _ _ _ _ v u n f m s _ _ (h.a.drewN _) (by have := h.ml; omega) h.sb hx hp).mono ?_; rintro e w' ⟨rfl, q2, rfl⟩))
    go_ret
    exact ⟨rfl, _, rfl⟩

set_option maxRecDepth 20000 in
theorem set_bar (w : World) (hb : Nat) (X : Nat → Prop) (sz : Nat) (tm : Int) (n : Nat) (f : Nat → Nat) (st : Nat → Bool) (x j y : Nat) (h : HeapAt w hb X sz tm n f st) (hx : x < 18446744073709551616) (hy : y < 18446744073709551616) (hc : isPtr st x = true) (hj : j < hTag (f (x / 4))) (hm : may st y = false) :
    Calls Try.prog 83 #[.pointer (some ⟨hb, 0, none⟩), .int .u64 (x : Int), .int .i64 (j : Int), .int .u64 (y : Int)] w fun e w' => e = .returned (.bool false) ∧ ∃ q, w' = w.drewN q := by
  have HA := hide h
  obtain ⟨i, v, u, v', u', m, s, n', f', m', s', h⟩ := h
  have K := now_any w hb i v u v' u' sz tm h.i1 h.a.blk
  have hp := h.ptr x
  rw [hc] at hp
  obtain ⟨hlt, hfb⟩ := h.ptrlt hc
  have hin := (h.good.inn _ (isPtr_st hc).1).2
  have hz := h.z
  have hnz := h.nz
  have hL : hLen (f (x / 4)) = 1 + hTag (f (x / 4)) + hRaw (f (x / 4)) := rfl
  have hin2 : x / 4 + 1 + j < n := by omega
  obtain ⟨g, cap, rfl, hc1, hc2, hcl⟩ := h.a.ov.rd hin2
  have KM := fun q => maySet_any (w.drewN q) hb X sz tm n f st y (HA.out.drewN q) hy
  rw [hm] at KM
  go_enter Try.func83, Try.ntmps83
  go_wp2_with (first | (go_at_call 60; refine K.mono ?_; rintro e w' ⟨rfl, q, rfl⟩) | (go_at_call 77; refine (tfield_in 134 _ _ _ _ g cap u n f m s _ (x / 4) j (h.a.drewN _) (by have := h.ml; omega) h.sb hx hp rfl hlt hfb hj hin2 (by omega) hc1 hc2).mono ?_; rintro e w' ⟨rfl, q2, rfl⟩) | (go_at_call 119; refine (KM _).mono ?_; rintro e w' ⟨rfl, q3, rfl⟩))
  go_ret
  exact ⟨rfl, _, rfl⟩

set_option maxRecDepth 20000 in
theorem set_yes (w : World) (hb : Nat) (X : Nat → Prop) (sz : Nat) (tm : Int) (n : Nat) (f : Nat → Nat) (st : Nat → Bool) (x j y : Nat) (h : HeapAt w hb X sz tm n f st) (hx : x < 18446744073709551616) (hy : y < 18446744073709551616) (hc : isPtr st x = true) (hj : j < hTag (f (x / 4))) (hm : may st y = true) :
    Calls Try.prog 83 #[.pointer (some ⟨hb, 0, none⟩), .int .u64 (x : Int), .int .i64 (j : Int), .int .u64 (y : Int)] w fun e w' => e = .returned (.bool true) ∧ HeapAt w' hb X sz tm n (upd f (x / 4 + 1 + j) y) st ∧ Fr X w w' := by
  have HA := hide h
  obtain ⟨i, v, u, v', u', m, s, n', f', m', s', h⟩ := h
  have K := now_any w hb i v u v' u' sz tm h.i1 h.a.blk
  have hp := h.ptr x
  rw [hc] at hp
  obtain ⟨hlt, hfb⟩ := h.ptrlt hc
  have hin := (h.good.inn _ (isPtr_st hc).1).2
  have hz := h.z
  have hnz := h.nz
  have hL : hLen (f (x / 4)) = 1 + hTag (f (x / 4)) + hRaw (f (x / 4)) := rfl
  have hin2 : x / 4 + 1 + j < n := by omega
  obtain ⟨g, cap, rfl, hc1, hc2, hcl⟩ := h.a.ov.rd hin2
  have hst := h.good.field (i := j) (isPtr_st hc).1 (by omega)
  have KM := fun q => maySet_any (w.drewN q) hb X sz tm n f st y (HA.out.drewN q) hy
  rw [hm] at KM
  have hcl2 := (h.put (y := y) hin2 hst hy).1
  have hfz2 := (h.put (y := y) hin2 hst hy).2.1
  have PUT := hide (fun (q : Nat) => ((h.fr (S := fun _ => False) ((Fr.refl _ _).drewN q) (fun _ _ e => e)).put (y := y) hin2 hst hy).2.2)
  go_enter Try.func83, Try.ntmps83
  go_wp2_with (first | (go_at_call 60; refine K.mono ?_; rintro e w' ⟨rfl, q, rfl⟩) | (go_at_call 77; refine (tfield_in 134 _ _ _ _ g cap u n f m s _ (x / 4) j (h.a.drewN _) (by have := h.ml; omega) h.sb hx hp rfl hlt hfb hj hin2 (by omega) hc1 hc2).mono ?_; rintro e w' ⟨rfl, q2, rfl⟩) | (go_at_call 119; refine (KM _).mono ?_; rintro e w' ⟨rfl, q3, rfl⟩))
  go_ret
  refine ⟨rfl, ⟨i, _, u, v', u', m, s, n', f', m', s', (PUT.out _).1⟩, ?_⟩
  exact Fr.trans ((Fr.refl X w).drewN _) (PUT.out _).2 (fun _ _ e => e)

end Go.Proofs.Ytchdfenickjiiaa
