/-
  What is proved here: the calls of package num and of its statements, said by the values of the numbers alone.
-/
import Derived.Test.YtjbocfhmfidjjaaDoorNNum
import Derived.Test.YtjbocfhmfidjjaaDoorNNeg
namespace Go.Proofs.YtjbocfhmfidjjaaDoor
open Go Go.RowKit

/-- The number a in blocks from lo on, below hi, canonical or not: its value is X, it has at most M limbs. -/
def NumD (X : Int) (M : Nat) (w : World) (lo hi : Nat) (a : Value) : Prop := ∃ b n f, CopIn b n f w lo hi a ∧ (∀ i, i < n → f i < 4294967296) ∧ n ≤ M ∧ sgn b (num 4294967296 f n) = X
/-- A number that can be read. -/
def RdD (X : Int) (M : Nat) (w : World) (a : Value) : Prop := ∃ b n f, Nm w a b n f ∧ (∀ i, i < n → f i < 4294967296) ∧ n ≤ M ∧ sgn b (num 4294967296 f n) = X
/-- A canonical number that can be read. -/
def RdC (X : Int) (M : Nat) (w : World) (a : Value) : Prop := ∃ b n f, Nm w a b n f ∧ CanZ b f n ∧ n ≤ M ∧ sgn b (num 4294967296 f n) = X
theorem NumD.keep {X : Int} {M : Nat} {w w' : World} {lo hi : Nat} {a : Value} (h : NumD X M w lo hi a) (hb : ∀ b, lo ≤ b → b < hi → w'.heap[b]? = w.heap[b]?) : NumD X M w' lo hi a := by
  obtain ⟨b, n, f, c, r⟩ := h
  exact ⟨b, n, f, c.keep hb, r⟩
theorem NumD.rd {X : Int} {M M' : Nat} {w : World} {lo hi : Nat} {a : Value} (h : NumD X M w lo hi a) (hM : M ≤ M') : RdD X M' w a := by
  obtain ⟨b, n, f, c, d, l, s⟩ := h
  exact ⟨b, n, f, c.nm, d, by omega, s⟩
theorem NumIn.rd {X : Int} {M M' : Nat} {w : World} {lo hi : Nat} {a : Value} (h : NumIn X M w lo hi a) (hM : M ≤ M') : RdD X M' w a := by
  obtain ⟨b, n, f, c, d, l, s⟩ := h
  exact ⟨b, n, f, c.nm, d.1.1, by omega, s⟩
theorem NumIn.rc {X : Int} {M : Nat} {w : World} {lo hi : Nat} {a : Value} (h : NumIn X M w lo hi a) : RdC X M w a := by
  obtain ⟨b, n, f, c, d, l, s⟩ := h
  exact ⟨b, n, f, c.nm, d, l, s⟩
theorem RdC.rd {X : Int} {M M' : Nat} {w : World} {a : Value} (h : RdC X M w a) (hM : M ≤ M') : RdD X M' w a := by
  obtain ⟨b, n, f, c, d, l, s⟩ := h
  exact ⟨b, n, f, c, d.1.1, by omega, s⟩
theorem RdC.up {X : Int} {M : Nat} {w w' : World} {a : Value} (h : RdC X M w a) (u : Up w w') : RdC X M w' a := by
  obtain ⟨b, n, f, c, r⟩ := h
  exact ⟨b, n, f, c.up u, r⟩
theorem RdD.up {X : Int} {M : Nat} {w w' : World} {a : Value} (h : RdD X M w a) (u : Up w w') : RdD X M w' a := by
  obtain ⟨b, n, f, c, r⟩ := h
  exact ⟨b, n, f, c.up u, r⟩
/-- A number's cells. -/
theorem RdD.agg {X : Int} {M : Nat} {w : World} {a : Value} (h : RdD X M w a) : ∃ b ao n cap, a = .agg #[.bool b, .slice ao n cap] := by
  obtain ⟨b, n, f, ⟨v, rfl, s⟩, -⟩ := h
  obtain ⟨ao, cap, rfl, -⟩ := s
  exact ⟨b, ao, n, cap, rfl⟩
theorem NumEnd.fin {X : Int} {M : Nat} {w w' : World} {e : Ending} (h : NumEnd X M w e w') : ∃ v, e = .returned v ∧ NumIn X M w' w.heap.size w'.heap.size v ∧ Up w w' := by
  obtain ⟨a, b, n, f, rfl, o, u, c, l, s⟩ := h
  exact ⟨a, rfl, ⟨b, n, f, CopIn.of o, c, l, s⟩, u⟩

theorem c_rd {X : Int} {M : Nat} {w : World} {a : Value} (h : RdD X M w a) (hM : 4 * M ≤ 140737488355328) :
    Calls Tryd.prog 24 #[a] w fun e w' => ∃ v, e = .returned v ∧ NumD X M w' w.heap.size w'.heap.size v ∧ Up w w' := by
  obtain ⟨b, n, f, hn, d, l, s⟩ := h
  refine (cnum_any a b n f w hn (by omega)).mono ?_
  rintro e w' ⟨v, rfl, o, u⟩
  exact ⟨v, rfl, ⟨b, n, f, CopIn.of o, d, l, s⟩, u⟩
theorem of_rd (z : Int) (w : World) (h1 : -9223372036854775808 ≤ z) (h2 : z ≤ 9223372036854775807) :
    Calls Tryd.prog 26 #[.int .i64 z] w fun e w' => ∃ v, e = .returned v ∧ NumIn z 2 w' w.heap.size w'.heap.size v ∧ Up w w' := by
  refine (of_any z w h1 h2).mono ?_
  rintro e w' ⟨a, b, n, f, rfl, o, u, c, l, s⟩
  exact ⟨a, rfl, ⟨b, n, f, CopIn.of o, c, l, s⟩, u⟩
theorem neg_rd {X : Int} {M : Nat} {w : World} {a : Value} (h : RdD X M w a) (hM : 4 * M ≤ 281474976710656) :
    Calls Tryd.prog 30 #[a] w fun e w' => ∃ v, e = .returned v ∧ NumIn (-X) M w' w.heap.size w'.heap.size v ∧ Up w w' := by
  obtain ⟨b, n, f, hn, d, l, s⟩ := h
  refine (negz_any a b n f X w hn d (by omega) s).mono ?_
  rintro e w' ⟨a', b', n', f', rfl, o, u, c, l', s'⟩
  exact ⟨a', rfl, ⟨b', n', f', CopIn.of o, c, by omega, s'⟩, u⟩
theorem sub_rd {X Y : Int} {M : Nat} {w : World} {a u : Value} (h : RdD X M w a) (k : RdD Y M w u) (hM : 4 * (M + 1) ≤ 281474976710656) :
    Calls Tryd.prog 28 #[a, u] w fun e w' => ∃ v, e = .returned v ∧ NumIn (X - Y) (M + 1) w' w.heap.size w'.heap.size v ∧ Up w w' := by
  obtain ⟨b, n, f, hn, d, l, s⟩ := h
  obtain ⟨b2, n2, f2, hn2, d2, l2, s2⟩ := k
  exact (subz_any a u b b2 n n2 M f f2 X Y w hn hn2 d d2 l l2 hM s s2).mono fun e w' h => h.fin
theorem cmp_rd {X Y : Int} {M : Nat} {w : World} {a u : Value} (h : RdD X M w a) (k : RdD Y M w u) :
    Calls Tryd.prog 32 #[a, u] w fun e w' => ∃ v, e = .returned v ∧ v = .int .i64 (cmpZ X Y) ∧ Up w w' := by
  obtain ⟨b, n, f, hn, d, l, s⟩ := h
  obtain ⟨b2, n2, f2, hn2, d2, l2, s2⟩ := k
  refine (cmpz_any a u b b2 n n2 f f2 w hn hn2 d d2).mono ?_
  rintro e w' ⟨rfl, u⟩
  exact ⟨_, rfl, by rw [s, s2], u⟩
theorem same_rd {X Y : Int} {M M' : Nat} {w : World} {a u : Value} (h : RdC X M w a) (k : RdC Y M' w u) (e : X = Y) :
    Calls Tryd.prog 16 #[a, u] w fun e w' => ∃ v, e = .returned v ∧ v = .bool true ∧ Up w w' := by
  obtain ⟨b, n, f, hn, d, l, s⟩ := h
  obtain ⟨b2, n2, f2, hn2, d2, l2, s2⟩ := k
  refine (samez_any a u b b2 n n2 f f2 w hn hn2 d d2 (by rw [s, s2, e])).mono ?_
  rintro e w' ⟨rfl, u⟩
  exact ⟨_, rfl, rfl, u⟩
theorem awake_rd {w : World} (h : Tab w) : Calls Tryd.prog 20 #[] w fun e w' => ∃ v, e = .returned v ∧ v = .bool true ∧ Up w w' :=
  (awake_any w h).mono fun _ _ ⟨h1, h2⟩ => ⟨_, h1, rfl, h2⟩
theorem add2_rd {g : Nat} {b1 b2 : Bool} {v1 v2 : Value} {E : TypeId} {X Y : Int} {M : Nat} {w : World} (hg : w.heap[g]? = some (.cells #[.bool b1, v1, .bool b2, v2] E (0, 0))) (h : RdD X M w (.agg #[.bool b1, v1])) (k : RdD Y M w (.agg #[.bool b2, v2])) (hM : 4 * (M + 1) ≤ 281474976710656) :
    Calls Tryd.prog 17 #[.slice (some ⟨g, 0, none⟩) 2 2] w fun e w' => ∃ v, e = .returned v ∧ NumIn (X + Y) (M + 1) w' w.heap.size w'.heap.size v ∧ Up w w' := by
  obtain ⟨b, n, f, ⟨v, e, hn⟩, d, l, s⟩ := h
  cases e
  obtain ⟨c, m, q, ⟨v', e, hm⟩, d2, l2, s2⟩ := k
  cases e
  exact (add2_blk g v1 v2 b1 b2 n m M f q E X Y w hg hn hm d d2 l l2 hM s s2).mono fun e w' h => h.fin
theorem mul2_rd {g : Nat} {b1 b2 : Bool} {v1 v2 : Value} {E : TypeId} {X Y : Int} {M1 M2 : Nat} {w : World} (hg : w.heap[g]? = some (.cells #[.bool b1, v1, .bool b2, v2] E (0, 0))) (h : RdD X M1 w (.agg #[.bool b1, v1])) (k : RdD Y M2 w (.agg #[.bool b2, v2])) (hM : 4 * (M1 + M2) ≤ 281474976710656) :
    Calls Tryd.prog 21 #[.slice (some ⟨g, 0, none⟩) 2 2] w fun e w' => ∃ v, e = .returned v ∧ NumIn (X * Y) (M1 + M2) w' w.heap.size w'.heap.size v ∧ Up w w' := by
  obtain ⟨b, n, f, ⟨v, e, hn⟩, d, l, s⟩ := h
  cases e
  obtain ⟨c, m, q, ⟨v', e, hm⟩, d2, l2, s2⟩ := k
  cases e
  refine (mul2_blk g v1 v2 b1 b2 n m f q E X Y w hg hn hm d d2 (by omega) s s2).mono ?_
  rintro e w' ⟨a', b', n', f', rfl, o, u, c, l', s'⟩
  exact ⟨a', rfl, ⟨b', n', f', CopIn.of o, c, by omega, s'⟩, u⟩
theorem add1_rd {g : Nat} {b1 : Bool} {v1 : Value} {E : TypeId} {X : Int} {M : Nat} {w : World} (hg : w.heap[g]? = some (.cells #[.bool b1, v1] E (0, 0))) (h : RdD X M w (.agg #[.bool b1, v1])) (hM : 4 * (M + 1) ≤ 281474976710656) :
    Calls Tryd.prog 17 #[.slice (some ⟨g, 0, none⟩) 1 1] w fun e w' => ∃ v, e = .returned v ∧ NumIn X (M + 1) w' w.heap.size w'.heap.size v ∧ Up w w' := by
  obtain ⟨b, n, f, ⟨v, e, hn⟩, d, l, s⟩ := h
  cases e
  have hr : RdN w (some ⟨g, 0, none⟩) 1 (fun _ => v1) (fun _ => b1) := by
    refine .inr ⟨g, 0, rfl, fun i hi => ?_⟩
    rw [cell_of_row _ _ _ _ _ _ hg, cell_of_row _ _ _ _ _ _ hg]
    match i, hi with
    | 0, _ => exact ⟨rfl, rfl⟩
  refine (addz_any _ 1 1 M (fun _ => v1) (fun _ => b1) (fun _ => n) (fun _ => f) _ hr (fun j hj => ⟨hn, d, l⟩) hM (by decide)).mono ?_
  rintro e w' ⟨a, b, n, f, rfl, o, u, c, l, s'⟩
  refine ⟨a, rfl, ⟨b, n, f, CopIn.of o, c, l, ?_⟩, u⟩
  rw [s', ← s]
  simp [sumZ]

/-- What num.Truncate and num.Floor answer. -/
def DivsIn (Q R : Int) (ok : Bool) (M : Nat) (w : World) (lo hi : Nat) (v : Value) : Prop := ∃ aq ar, v = .tuple #[aq, ar, .bool ok] ∧ NumIn Q M w lo hi aq ∧ NumIn R M w lo hi ar
theorem DivsIn.keep {Q R : Int} {ok : Bool} {M : Nat} {w w' : World} {lo hi : Nat} {v : Value} (h : DivsIn Q R ok M w lo hi v) (hb : ∀ b, lo ≤ b → b < hi → w'.heap[b]? = w.heap[b]?) : DivsIn Q R ok M w' lo hi v := by
  obtain ⟨aq, ar, e, h1, h2⟩ := h
  exact ⟨aq, ar, e, h1.keep hb, h2.keep hb⟩
theorem trunc_rd {X Y : Int} {M : Nat} {w : World} {a u : Value} (h : RdD X M w a) (k : RdD Y M w u) (hM : 4 * (M + 1) ≤ 281474976710656) :
    Calls Tryd.prog 34 #[a, u] w fun e w' => ∃ v, e = .returned v ∧ DivsIn (Int.tdiv X Y) (rz X Y) (decide (Y ≠ 0)) (M + 1) w' w.heap.size w'.heap.size v ∧ Up w w' := by
  obtain ⟨b, n, f, hn, d, l, s⟩ := h
  obtain ⟨b2, n2, f2, hn2, d2, l2, s2⟩ := k
  refine (trunc_any a u b b2 n n2 M f f2 X Y w hn hn2 d d2 l l2 hM s s2).mono ?_
  rintro e w' ⟨aq, ar, bq, br, nq, nr, fq, fr, rfl, oq, or, u, cq, cr, lq, lr, sq, sr⟩
  exact ⟨_, rfl, ⟨aq, ar, rfl, ⟨bq, nq, fq, CopIn.of oq, cq, lq, sq⟩, ⟨br, nr, fr, CopIn.of or, cr, by omega, sr⟩⟩, u⟩
theorem floor_rd {X Y : Int} {M : Nat} {w : World} {a u : Value} (h : RdD X M w a) (k : RdD Y M w u) (hM : 4 * (M + 3) ≤ 281474976710656) :
    Calls Tryd.prog 36 #[a, u] w fun e w' => ∃ v, e = .returned v ∧ DivsIn (Int.fdiv X Y) (if Y = 0 then 0 else Int.fmod X Y) (decide (Y ≠ 0)) (M + 2) w' w.heap.size w'.heap.size v ∧ Up w w' := by
  obtain ⟨b, n, f, hn, d, l, s⟩ := h
  obtain ⟨b2, n2, f2, hn2, d2, l2, s2⟩ := k
  refine (floor_any a u b b2 n n2 M f f2 X Y w hn hn2 d d2 l l2 hM s s2).mono ?_
  rintro e w' ⟨aq, ar, bq, br, nq, nr, fq, fr, rfl, oq, or, u, cq, cr, lq, lr, sq, sr⟩
  exact ⟨_, rfl, ⟨aq, ar, rfl, ⟨bq, nq, fq, CopIn.of oq, cq, lq, sq⟩, ⟨br, nr, fr, CopIn.of or, cr, lr, sr⟩⟩, u⟩

/-- Two numbers laid side by side, and one. -/
def Pair2 (w : World) (g : Got) (vs : List Value) : Prop := g.v = .slice (some ⟨g.lo, 0, none⟩) 2 2 ∧ g.lo < g.hi ∧ ∃ b1 v1 b2 v2, vs = [Value.agg #[.bool b1, v1], .agg #[.bool b2, v2]] ∧ w.heap[g.lo]? = some (.cells #[.bool b1, v1, .bool b2, v2] 26 (0, 0))
def Pair1 (w : World) (g : Got) (vs : List Value) : Prop := g.v = .slice (some ⟨g.lo, 0, none⟩) 1 1 ∧ g.lo < g.hi ∧ ∃ b1 v1, vs = [Value.agg #[.bool b1, v1]] ∧ w.heap[g.lo]? = some (.cells #[.bool b1, v1] 26 (0, 0))
theorem Pair2.keep {w w' : World} {g : Got} {vs : List Value} (h : Pair2 w g vs) (hb : ∀ b, g.lo ≤ b → b < g.hi → w'.heap[b]? = w.heap[b]?) : Pair2 w' g vs := by
  obtain ⟨h1, h2, b1, v1, b2, v2, h3, h4⟩ := h
  exact ⟨h1, h2, b1, v1, b2, v2, h3, (hb _ (Nat.le_refl _) h2).trans h4⟩
theorem Pair1.keep {w w' : World} {g : Got} {vs : List Value} (h : Pair1 w g vs) (hb : ∀ b, g.lo ≤ b → b < g.hi → w'.heap[b]? = w.heap[b]?) : Pair1 w' g vs := by
  obtain ⟨h1, h2, b1, v1, h3, h4⟩ := h
  exact ⟨h1, h2, b1, v1, h3, (hb _ (Nat.le_refl _) h2).trans h4⟩

end Go.Proofs.YtjbocfhmfidjjaaDoor
