/-
  What is proved here: a half of the heap: an object is laid behind the others, and marked; a half is made empty.
-/
import Derived.Test.YtchdfenickjiiaaHField
namespace Go.Proofs.Ytchdfenickjiiaa
open Go Go.RowKit

theorem infoW : (Try.prog.info? 22).map (fun i => (i.zero, i.size, i.bytes)) = some (some (.int .u64 0), 1, 8) := by kernel_rfl
theorem hcells_one (w : World) (a : Value) (E : TypeId) : ∀ j u, [a][j]? = some u → (w.alloc (.cells #[a] E)).cell? ((⟨w.heap.size, 0, none⟩ : Addr).add j) = some u := by
  intro j u hj
  rw [Addr.add_lit, cell_of_row _ _ _ _ _ _ (heap_alloc_new w _), Nat.zero_add]
  simpa using hj

/-- The length of the slice that lies at a place. -/
def lenAt (w : World) (a : Addr) : Nat := match w.cell? a with | some (.slice _ n _) => n | _ => 0

/-- What comes of a slice that is appended to: it lies where it lay, or in new memory. -/
def Stays (H : Nat) (v v' : Value) : Prop := ∀ g, v'.ownBlock = some g → v.ownBlock = some g ∨ H ≤ g
theorem Stays.refl (H : Nat) (v : Value) : Stays H v v := fun _ h => .inl h
theorem Stays.trans {H H' : Nat} {a b c : Value} (h : Stays H a b) (k : Stays H' b c) (hH : H ≤ H') : Stays H a c := fun g hg => by
  rcases k g hg with e | e
  · exact h g e
  · exact .inr (by omega)

theorem set_twice (c : Array Value) (i : Nat) (x y : Value) : (c.setIfInBounds i x).setIfInBounds i y = c.setIfInBounds i y := by
  apply Array.ext_getElem?
  intro j
  by_cases e : i = j
  · subst e
    simp [Array.getElem?_setIfInBounds]
  · simp [e]
theorem set_self {c : Array Value} {i : Nat} {x : Value} (h : c[i]? = some x) : c.setIfInBounds i x = c := by
  apply Array.ext_getElem?
  intro j
  by_cases e : i = j
  · subst e
    simp [Array.getElem?_setIfInBounds, h]
    exact (Array.getElem?_eq_some_iff.1 h).1
  · simp [e]

/-- Marks with one word of none more. -/
theorem marks_more {m : Nat} {s : Nat → Nat} (p : Nat) : marks (m + 1) (upd s m 0) p = marks m s p := by
  unfold marks
  by_cases e : p / 64 = m
  · rw [e, upd_same]; simp
  · rw [upd_other e]
    have : decide (p / 64 < m + 1) = decide (p / 64 < m) := by simp; omega
    rw [this]
/-- One place more is marked. -/
theorem marks_or {m : Nat} {s : Nat → Nat} {n : Nat} (hn : n / 64 < m) (p : Nat) : marks m (upd s (n / 64) (s (n / 64) ||| 2 ^ (n % 64))) p = also (marks m s) n p := by
  unfold marks also
  by_cases e : p / 64 = n / 64
  · rw [e, upd_same, Nat.testBit_or, Nat.testBit_two_pow]
    by_cases e2 : n % 64 = p % 64
    · have : p = n := by omega
      subst this
      simp [hn]
    · have : ¬ p = n := by omega
      simp [e, e2, this]
  · rw [upd_other e]
    have : ¬ p = n := fun h => e (by rw [h])
    simp [this]

theorem lies_stays {H H' g n cap : Nat} {v : Value} (hat : v.ownBlock = some g ∨ g = H') (hH : H ≤ H') : Stays H v (.slice (some ⟨g, 0, none⟩) n cap) := by
  intro g' hg
  have e : g = g' := by simpa [Value.ownBlock] using hg
  subst e
  rcases hat with h | h
  · exact .inl h
  · exact .inr (by omega)
theorem lenAt_of {w : World} {a : Addr} {ao : Option Addr} {n cap : Nat} (h : w.cell? a = some (.slice ao n cap)) : lenAt w a = n := by simp [lenAt, h]
theorem or_pow (a k : Nat) (ha : a < 18446744073709551616) (hk : k < 64) : bits BinOp.or IntKind.u64 (a : Int) (IntKind.u64.wrap (2 ^ k)) = ((a ||| 2 ^ k : Nat) : Int) ∧ a ||| 2 ^ k < 18446744073709551616 := by
  have h1 : 2 ^ k < 2 ^ 64 := Nat.pow_lt_pow_right (by decide) hk
  refine ⟨?_, Nat.or_lt_two_pow (n := 64) ha h1⟩
  have h2 : IntKind.u64.wrap (2 ^ k) = ((2 ^ k : Nat) : Int) := by
    rw [show ((2 : Int) ^ k) = ((2 ^ k : Nat) : Int) by simp]
    generalize 2 ^ k = y at *
    simp only [IntKind.wrap, IntKind.bits, IntKind.signed]
    simp
    omega
  rw [h2, u64_or_nat _ _ ha h1]

set_option maxRecDepth 20000 in
set_option maxHeartbeats 1000000 in
theorem start_any (T : TypeId) (w : World) (hb : Nat) (cur : Array Value) (o : Nat) (v u : Value) (n : Nat) (f : Nat → Nat) (m : Nat) (s : Nat → Nat) (h : HalfAt 22 T w hb cur o v u n f m s) (hn : n ≤ 1048576) (hm : m ≤ 16385) (hs : ∀ i, i < m → s i < 18446744073709551616) :
    Calls Try.prog 120 #[.pointer (some ⟨hb, o, none⟩)] w fun e w' => e = .returned (.int .u64 ((4 * n : Nat) : Int)) ∧ ∃ u' m' s', HalfAt 22 T w' hb (cur.setIfInBounds (o + 1) u') o v u' n f m' s' ∧ (∀ p, marks m' s' p = also (marks m s) n p) ∧ (∀ i, i < m' → s' i < 18446744073709551616) ∧ m' ≤ 16385 ∧ Stays w.heap.size u u' ∧ Fr (fun k => k = hb ∨ u.ownBlock = some k) w w' := by
  obtain ⟨i, hi, hz0, hz1, hz2⟩ := info_parts infoW
  have hcv := h.cellv
  obtain ⟨ao, cap, rfl⟩ := h.ov.shape
  go_enter Try.func120, Try.ntmps120
  go_wp2
  go_loopw [] (fun wr => ∃ u' m' s', HalfAt 22 T wr hb (cur.setIfInBounds (o + 1) u') o (.slice ao n cap) u' n f m' s' ∧ (∀ p, marks m' s' p = marks m s p) ∧ (∀ i, i < m' → s' i < 18446744073709551616) ∧ m' ≤ 16385 ∧ Stays w.heap.size u u' ∧ Fr (fun k => k = hb ∨ u.ownBlock = some k) w wr) (fun wr => n / 64 + 1 - lenAt wr ⟨hb, o + 1, none⟩)
  case atStart => exact ⟨u, m, s, by rw [set_self h.cu]; exact h, fun _ => rfl, hs, hm, Stays.refl _ _, Fr.refl _ _⟩
  case round =>
    obtain ⟨u1, m1, s1, h1, hk1, hs1, hm1, hst1, hfr1⟩ := hrel
    have hcu := h1.cellu
    have hfz := h1.free (o + 1)
    by_cases hlt : m1 ≤ n / 64
    · have hown := h1.ou.row
      obtain ⟨ao1, cap1, rfl⟩ := h1.ou.shape
      have HH := hide h1
      have HF := hide hfr1
      clear h1 hfr1 hcv h
      go_wp2_with (at_builtin; refine wpList_append_lies _ rfl _ _ 35 rfl 0 22 i (.int .u64 0) 1 8 Try.underlying35 hi hz0 hz1 hz2 rfl (by decide) _ _ _ rfl (hown.alloc _) ⟨wr.heap.size, 0, none⟩ 1 1 [.int .u64 0] rfl rfl (hcells_one _ _ _) (fun u hu => by simp at hu; subst hu; rfl) (by decide) (by unfold maxLen; omega) (by omega) (by simp) (wr.heap.size + 1) (by simp) ?_; intro g cap2 w2 hown2 hgrow hat hlt2; obtain ⟨hc2, hf2, hH2⟩ := HH.out.regrowU (((Fr.refl _ wr).alloc _).grow hgrow (fun k _ e => e)) (Own.snoc hown2) (lies_stays hat (by omega)); have HH2 := hide hH2; clear hH2)
      refine ⟨⟨_, m1 + 1, upd s1 m1 0, by rw [← set_twice]; exact HH2.out, fun p => by rw [marks_more]; exact hk1 p, fun j hj => ?_, by omega, hst1.trans (lies_stays hat (Nat.le_refl _)) (by have := HF.out.size; omega), ?_⟩, ?_⟩
      · by_cases e : j = m1
        · rw [e, upd_same]; decide
        · rw [upd_other e]; exact hs1 j (by omega)
      · refine ((HF.out.alloc _).grow hgrow fun k hk e => ?_).setCell (fun _ => .inl rfl) _ _
        rcases hst1 k e with e | e
        · exact .inr e
        · omega
      · rw [lenAt_of HH2.out.cellu, lenAt_of hcu]; omega
    · obtain ⟨g, cap1, rfl, hc1, hc2, hc⟩ := h1.ou.rd (i := n / 64) (by omega)
      have hfz2 : wr.frozen? ⟨g, n / 64, none⟩ = false := by
        rcases h1.ou with ⟨e, _⟩ | ⟨g', cap', e, _, _, h3⟩
        · cases e
        · cases e; exact h3.free _
      have hor := or_pow (s1 (n / 64)) (n % 64) (hs1 _ (by omega)) (by omega)
      have hoe := hor.1
      have HH := hide h1
      have HF := hide hfr1
      clear h1 hfr1 hcv h
      go_wp2
      go_region
      go_wp2_with (go_at_call 136; refine (pointerTo_any _ _ hn).mono ?_; rintro e w' ⟨rfl, rfl⟩)
      go_ret
      refine ⟨rfl, _, m1, _, (HH.out.setU (i := n / 64) (by omega) _).drew, fun p => ?_, fun j hj => ?_, hm1, hst1, ?_⟩
      · rw [marks_or (by omega)]
        unfold also
        rw [hk1]
      · by_cases e : j = n / 64
        · rw [e, upd_same]; exact hor.2
        · rw [upd_other e]; exact hs1 j hj
      · refine (HF.out.setCell (fun hk => ?_) _ _).drew
        rcases hst1 g rfl with e | e
        · exact .inr e
        · omega

end Go.Proofs.Ytchdfenickjiiaa
