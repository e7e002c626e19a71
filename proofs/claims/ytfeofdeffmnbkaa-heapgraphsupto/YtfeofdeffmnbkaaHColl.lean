/-
  What is proved here: the heap's Collect: what can be reached is copied into the other half, which is in use then.
-/
import Derived.Test.YtfeofdeffmnbkaaHAll2
namespace Go.Proofs.Ytfeofdeffmnbkaa
open Go Go.RowKit

theorem HeapIn.flip {w : World} {hb : Nat} {X : Nat → Prop} {sz : Nat} {tm : Int} {n : Nat} {f : Nat → Nat} {st : Nat → Bool} {i : Nat} {v u v' u' : Value} {m : Nat} {s : Nat → Nat} {n' : Nat} {f' : Nat → Nat} {m' : Nat} {s' : Nat → Nat} (h : HeapIn w hb X sz tm n f st i v u v' u' m s n' f' m' s') :
    PreIn ((w.setCell ⟨hb, 4, none⟩ (.int .i64 ((1 - i : Nat) : Int))).setCell ⟨hb, 6, none⟩ (.int .i64 (tm + 1))) hb X sz (tm + 1) n f st (1 - i) v' u' v u n' f' m' s' m s ∧ Fr X w ((w.setCell ⟨hb, 4, none⟩ (.int .i64 ((1 - i : Nat) : Int))).setCell ⟨hb, 6, none⟩ (.int .i64 (tm + 1))) := by
  have hXb : X hb := (h.xs hb).2 (.inl (.inl rfl))
  have hF : Fr (fun k => k = hb) w ((w.setCell ⟨hb, 4, none⟩ (.int .i64 ((1 - i : Nat) : Int))).setCell ⟨hb, 6, none⟩ (.int .i64 (tm + 1))) :=
    Fr.setCell (Fr.setCell (S := fun k => k = hb) (Fr.refl _ _) (fun _ => rfl) _ _) (fun _ => rfl) _ _
  have hblk : ((w.setCell ⟨hb, 4, none⟩ (.int .i64 ((1 - i : Nat) : Int))).setCell ⟨hb, 6, none⟩ (.int .i64 (tm + 1))).heap[hb]? = some (.cells (heapCells (1 - i) v' u' v u sz (tm + 1)) 74 (0, 0)) := by
    rw [heap_setCell_same _ hb 6 _ 74 _ (heap_setCell_same w hb 4 _ 74 _ h.a.blk)]
    rcases Nat.le_one_iff_eq_zero_or_eq_one.1 h.i1 with e | e <;> subst e <;> rfl
  have hx : ∀ (a : Value), a.ownBlock ≠ some hb → ∀ g, a.ownBlock = some g → ¬ g = hb := fun a ha g hg e => ha (by rw [← e]; exact hg)
  refine ⟨⟨by have := h.i1; omega, ⟨hblk, ?_, ?_, h.b.ov.fr hF (hx _ h.b.nv), h.b.ou.fr hF (hx _ h.b.nu), h.b.nv, h.b.nu, h.b.nn⟩, ⟨hblk, ?_, ?_, h.a.ov.fr hF (hx _ h.a.nv), h.a.ou.fr hF (hx _ h.a.nu), h.a.nv, h.a.nu, h.a.nn⟩, fun g e e2 => h.far g e2 e, h.marked, h.sb, h.ml, h.good, h.fb, h.nz, h.z, fun k => ?_⟩, hF.mono fun k _ e => by rw [e]; exact hXb⟩
  · rcases Nat.le_one_iff_eq_zero_or_eq_one.1 h.i1 with e | e <;> subst e <;> rfl
  · rcases Nat.le_one_iff_eq_zero_or_eq_one.1 h.i1 with e | e <;> subst e <;> rfl
  · rcases Nat.le_one_iff_eq_zero_or_eq_one.1 h.i1 with e | e <;> subst e <;> rfl
  · rcases Nat.le_one_iff_eq_zero_or_eq_one.1 h.i1 with e | e <;> subst e <;> rfl
  · rw [h.xs k]
    unfold foot
    constructor
    · rintro ((e | e) | e)
      · exact .inl (.inl e)
      · exact .inr e
      · exact .inl (.inr e)
    · rintro ((e | e) | e)
      · exact .inl (.inl e)
      · exact .inr e
      · exact .inl (.inr e)

theorem PreIn.fr {T : Nat → Prop} {w w2 : World} {hb : Nat} {X : Nat → Prop} {sz : Nat} {tm : Int} {n : Nat} {f : Nat → Nat} {st : Nat → Bool} {i : Nat} {v u v' u' : Value} {nJ : Nat} {fJ : Nat → Nat} {m : Nat} {s : Nat → Nat} {m' : Nat} {s' : Nat → Nat} (h : PreIn w hb X sz tm n f st i v u v' u' nJ fJ m s m' s') (hf : Fr T w w2) (hs : ∀ k, X k → ¬ T k) : PreIn w2 hb X sz tm n f st i v u v' u' nJ fJ m s m' s' :=
  ⟨h.i1, h.a.fr hf fun k hk => hs k ((h.xs k).2 (.inl hk)), h.b.fr hf fun k hk => hs k ((h.xs k).2 (by
    rcases hk with e | e
    · exact .inl (.inl e)
    · exact .inr e)), h.far, h.markF, h.sbF, h.mlF, h.good, h.fb, h.nz, h.z, h.xs⟩

set_option maxHeartbeats 4000000 in
theorem collect_any (w : World) (hb : Nat) (X : Nat → Prop) (sz : Nat) (tm : Int) (n : Nat) (f : Nat → Nat) (st : Nat → Bool) (ao : Option Addr) (l cap : Nat) (r : Nat → Nat) (h : HeapAt w hb X sz tm n f st) (htm1 : 0 ≤ tm) (htm2 : tm ≤ 4611686018427387904)
    (hr : l = 0 ∨ ∃ b off, ao = some ⟨b, off, none⟩ ∧ b < w.heap.size ∧ ¬ X b ∧ ∀ k, k < l → w.cell? ⟨b, off + k, none⟩ = some (.int .u64 (r k))) (hrl : ∀ k, k < l → r k < 18446744073709551616) (hl : l ≤ 17592186044416) (hcap : l ≤ cap) (hcap2 : cap ≤ 9223372036854775807) :
    Calls Try.prog 18 #[.pointer (some ⟨hb, 0, none⟩), .slice ao l cap] w fun e w' => ∃ gm X2, e = .returned (.slice (some ⟨gm, 0, none⟩) l l) ∧ w.heap.size ≤ gm ∧ RowAt .u64 33 w' gm l l (fun k => mvV f st (r k) (rootsS f st r k MS.zero)) ∧ ¬ X2 gm ∧ HeapAt w' hb X2 sz (tm + 1) (collS n f st r l).n (collS n f st r l).f (collS n f st r l).st ∧ Grows w.heap.size X X2 ∧ Fr X w w' := by
  obtain ⟨i, v, u, v', u', m, s, n', f', m', s', h⟩ := h
  have hXb : X hb := (h.xs hb).2 (.inl (.inl rfl))
  have K1 := now_any w hb i v u v' u' sz tm h.i1 h.a.blk
  have hc6 : w.cell? ⟨hb, 6, none⟩ = some (.int .i64 tm) := by
    rw [cell_of_row w hb 6 _ _ _ h.a.blk]
    rcases Nat.le_one_iff_eq_zero_or_eq_one.1 h.i1 with e | e <;> subst e <;> rfl
  have hc4 : w.cell? ⟨hb, 4, none⟩ = some (.int .i64 (i : Int)) := by
    rw [cell_of_row w hb 4 _ _ _ h.a.blk]
    rcases Nat.le_one_iff_eq_zero_or_eq_one.1 h.i1 with e | e <;> subst e <;> rfl
  have hf4 := h.a.free 4
  have hf6 := h.a.free 6
  have HFL := hide (fun (q : Nat) => (h.fr (S := fun _ => False) ((Fr.refl _ _).drewN q) (fun _ _ e => e)).flip)
  have KN := fun (q : Nat) => now_any _ hb (1 - i) v' u' v u sz (tm + 1) (by omega) ((h.fr (S := fun _ => False) ((Fr.refl _ _).drewN q) (fun _ _ e => e)).flip.1.a.blk)
  have hXl := hide (fun k hk => h.lt (k := k) hk)
  have hi := h.i1
  have HR := hide hr
  clear h hr
  rcases Nat.le_one_iff_eq_zero_or_eq_one.1 hi with e | e
  · subst e
    have hc4' : w.cell? ⟨hb, 4, none⟩ = some (.int .i64 0) := hc4
    have KN' : ∀ q, Calls Try.prog 47 #[.pointer (some ⟨hb, 0, none⟩)] (((w.drewN q).setCell ⟨hb, 4, none⟩ (.int .i64 1)).setCell ⟨hb, 6, none⟩ (.int .i64 (tm + 1))) fun e w' => e = .returned (.pointer (some ⟨hb, 2, none⟩)) ∧ ∃ n, w' = (((w.drewN q).setCell ⟨hb, 4, none⟩ (.int .i64 1)).setCell ⟨hb, 6, none⟩ (.int .i64 (tm + 1))).drewN n := KN
    have K1' : Calls Try.prog 47 #[.pointer (some ⟨hb, 0, none⟩)] w fun e w' => e = .returned (.pointer (some ⟨hb, 0, none⟩)) ∧ ∃ n, w' = w.drewN n := K1
    have KA : ∀ (W : World), PreIn W hb X sz (tm + 1) n f st 1 v' u' v u n' f' m' s' m s → Fr X w W → Calls Try.prog 48 #[.agg #[.pointer (some ⟨hb, 0, none⟩), .pointer (some ⟨hb, 2, none⟩)], .slice ao l cap] W fun e w' => ∃ gm X2, e = .returned (.slice (some ⟨gm, 0, none⟩) l l) ∧ W.heap.size ≤ gm ∧ RowAt .u64 33 w' gm l l (fun k => mvV f st (r k) (rootsS f st r k MS.zero)) ∧ ¬ X2 gm ∧ Mov w' hb X2 sz (tm + 1) n f st (collS n f st r l) 1 ∧ Grows W.heap.size X X2 ∧ Fr X W w' := fun W hP hF =>
      mall_any W hb X sz (tm + 1) n f st 1 v' u' v u n' f' m' s' m s hP ao l cap r (by
        rcases HR.out with e | ⟨b, off, e1, e2, e3, e4⟩
        · exact .inl e
        · exact .inr ⟨b, off, e1, Nat.lt_of_lt_of_le e2 hF.size, e3, fun k hk => (hF.cell e2 e3).trans (e4 k hk)⟩) hrl hl hcap hcap2
    clear K1 KN hc4
    go_enter Try.func18, Try.ntmps18
    go_wp2_with (first
      | (go_at_call 47; refine K1'.mono ?_; rintro e w1 ⟨rfl, q1, rfl⟩; clear K1')
      | (go_at_call 47; refine (KN' _).mono ?_; rintro e w1 ⟨rfl, q2, rfl⟩)
      | (go_at_call 48; refine (KA _ ((HFL.out q1).1.fr (T := fun _ => False) (((Fr.refl _ _).drewN q2).alloc _) (fun _ _ e => e)) (((Fr.trans ((Fr.refl X w).drewN q1) (HFL.out q1).2 (fun _ _ e => e)).drewN q2).alloc _)).mono ?_; rintro e w3 ⟨gm, X2, rfl, hge, hrow, hng, hM, hG, hF⟩))
    have hwf : Fr X w _ := ((Fr.trans ((Fr.refl X w).drewN q1) (HFL.out q1).2 (fun _ _ e => e)).drewN q2).alloc (.cells #[.pointer (some ⟨hb, 0, none⟩), .pointer (some ⟨hb, 2, none⟩)] 76)
    go_ret
    refine ⟨gm, X2, rfl, Nat.le_trans hwf.size hge, hrow, hng, hM.heap, fun k hk => ?_, hwf.trans hF (fun _ _ e => e)⟩
    rcases hG k hk with e | e
    · exact .inl e
    · exact .inr (Nat.le_trans hwf.size e)
  · subst e
    have hc4' : w.cell? ⟨hb, 4, none⟩ = some (.int .i64 1) := hc4
    have KN' : ∀ q, Calls Try.prog 47 #[.pointer (some ⟨hb, 0, none⟩)] (((w.drewN q).setCell ⟨hb, 4, none⟩ (.int .i64 0)).setCell ⟨hb, 6, none⟩ (.int .i64 (tm + 1))) fun e w' => e = .returned (.pointer (some ⟨hb, 0, none⟩)) ∧ ∃ n, w' = (((w.drewN q).setCell ⟨hb, 4, none⟩ (.int .i64 0)).setCell ⟨hb, 6, none⟩ (.int .i64 (tm + 1))).drewN n := KN
    have K1' : Calls Try.prog 47 #[.pointer (some ⟨hb, 0, none⟩)] w fun e w' => e = .returned (.pointer (some ⟨hb, 2, none⟩)) ∧ ∃ n, w' = w.drewN n := K1
    have KA : ∀ (W : World), PreIn W hb X sz (tm + 1) n f st 0 v' u' v u n' f' m' s' m s → Fr X w W → Calls Try.prog 48 #[.agg #[.pointer (some ⟨hb, 2, none⟩), .pointer (some ⟨hb, 0, none⟩)], .slice ao l cap] W fun e w' => ∃ gm X2, e = .returned (.slice (some ⟨gm, 0, none⟩) l l) ∧ W.heap.size ≤ gm ∧ RowAt .u64 33 w' gm l l (fun k => mvV f st (r k) (rootsS f st r k MS.zero)) ∧ ¬ X2 gm ∧ Mov w' hb X2 sz (tm + 1) n f st (collS n f st r l) 0 ∧ Grows W.heap.size X X2 ∧ Fr X W w' := fun W hP hF =>
      mall_any W hb X sz (tm + 1) n f st 0 v' u' v u n' f' m' s' m s hP ao l cap r (by
        rcases HR.out with e | ⟨b, off, e1, e2, e3, e4⟩
        · exact .inl e
        · exact .inr ⟨b, off, e1, Nat.lt_of_lt_of_le e2 hF.size, e3, fun k hk => (hF.cell e2 e3).trans (e4 k hk)⟩) hrl hl hcap hcap2
    clear K1 KN hc4
    go_enter Try.func18, Try.ntmps18
    go_wp2_with (first
      | (go_at_call 47; refine K1'.mono ?_; rintro e w1 ⟨rfl, q1, rfl⟩; clear K1')
      | (go_at_call 47; refine (KN' _).mono ?_; rintro e w1 ⟨rfl, q2, rfl⟩)
      | (go_at_call 48; refine (KA _ ((HFL.out q1).1.fr (T := fun _ => False) (((Fr.refl _ _).drewN q2).alloc _) (fun _ _ e => e)) (((Fr.trans ((Fr.refl X w).drewN q1) (HFL.out q1).2 (fun _ _ e => e)).drewN q2).alloc _)).mono ?_; rintro e w3 ⟨gm, X2, rfl, hge, hrow, hng, hM, hG, hF⟩))
    have hwf : Fr X w _ := ((Fr.trans ((Fr.refl X w).drewN q1) (HFL.out q1).2 (fun _ _ e => e)).drewN q2).alloc (.cells #[.pointer (some ⟨hb, 2, none⟩), .pointer (some ⟨hb, 0, none⟩)] 76)
    go_ret
    refine ⟨gm, X2, rfl, Nat.le_trans hwf.size hge, hrow, hng, hM.heap, fun k hk => ?_, hwf.trans hF (fun _ _ e => e)⟩
    rcases hG k hk with e | e
    · exact .inl e
    · exact .inr (Nat.le_trans hwf.size e)

end Go.Proofs.Ytfeofdeffmnbkaa
