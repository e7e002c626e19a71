/-
  What is proved here: check's list of places: one is put, the least is taken.
-/
import Derived.Test.YtmogglmofbbjlaaKLeaf
import Derived.Test.YtmogglmofbbjlaaKHeap
import Derived.Deep.RegionHeld3
namespace Go.Proofs.Ytmogglmofbbjlaa
open Go Go.RowKit

theorem infoI : (Try.prog.info? 3).map (fun i => (i.zero, i.size, i.bytes)) = some (some (.int .i64 0), 1, 8) := by kernel_rfl
theorem info_parts {P : Program} {t : TypeId} {z : Value} {n b : Nat} (h : (P.info? t).map (fun i => (i.zero, i.size, i.bytes)) = some (some z, n, b)) : ∃ i, P.info? t = some i ∧ i.zero = some z ∧ i.size = n ∧ i.bytes = b := by
  cases e : P.info? t with
  | none => rw [e] at h; cases h
  | some i => rw [e] at h; simp at h; exact ⟨i, rfl, h.1, h.2.1, h.2.2⟩
theorem hcells_one (w : World) (a : Value) (E : TypeId) : ∀ j u, [a][j]? = some u → (w.alloc (.cells #[a] E)).cell? ((⟨w.heap.size, 0, none⟩ : Addr).add j) = some u := by
  intro j u hj
  rw [Addr.add_lit, cell_of_row _ _ _ _ _ _ (heap_alloc_new w _), Nat.zero_add]
  simpa using hj
/-- What comes of a slice that is appended to: it lies where it lay, or in new memory. -/
def Stays (H : Nat) (v v' : Value) : Prop := ∀ g, v'.ownBlock = some g → v.ownBlock = some g ∨ H ≤ g
theorem Stays.refl (H : Nat) (v : Value) : Stays H v v := fun _ h => .inl h
theorem Stays.trans {H H' : Nat} {a b c : Value} (h : Stays H a b) (k : Stays H' b c) (hH : H ≤ H') : Stays H a c := fun g hg => by
  rcases k g hg with e | e
  · exact h g e
  · exact .inr (by omega)
theorem lies_stays {H H' g n cap : Nat} {v : Value} (hat : v.ownBlock = some g ∨ g = H') (hH : H ≤ H') : Stays H v (.slice (some ⟨g, 0, none⟩) n cap) := by
  intro g' hg
  have e : g = g' := by simpa [Value.ownBlock] using hg
  subst e
  rcases hat with h | h
  · exact .inl h
  · exact .inr (by omega)
theorem Own.shape {k : IntKind} {E : TypeId} {w : World} {base : Nat} {v : Value} {n : Nat} {f : Nat → Nat} (h : Own k E w base v n f) : ∃ ao cap, v = .slice ao n cap := by
  rcases h with ⟨rfl, rfl⟩ | ⟨g, cap, rfl, h1, h2, h3⟩
  · exact ⟨_, _, rfl⟩
  · exact ⟨_, _, rfl⟩

/-- The list of places holds these n. -/
structure Pl (n : Nat) (f : Nat → Nat) : Prop where
  heap : HeapP f n
  inj : Inj f n

theorem Own.out {k : IntKind} {E : TypeId} {w : World} {base g n n' cap : Nat} {f : Nat → Nat} (h : Own k E w base (.slice (some ⟨g, 0, none⟩) n' cap) n f) : n' = n ∧ cap ≤ 9223372036854775807 ∧ RowAt k E w g cap n f := by
  rcases h with ⟨e, _⟩ | ⟨g', cap', e, h1, h2, h3⟩
  · cases e
  · cases e; exact ⟨rfl, h2, h3⟩
theorem upd_le {f : Nat → Nat} {n x M : Nat} (hf : ∀ i, i < n → f i ≤ M) (hx : x ≤ M) : ∀ i, i < n + 1 → upd f n x i ≤ M := fun i hi => by
  by_cases e : i = n
  · rw [e, upd_same]; exact hx
  · rw [upd_other e]; exact hf i (by omega)
theorem swp_le {f : Nat → Nat} {a b n M : Nat} (hf : ∀ i, i < n → f i ≤ M) (ha : a < n) (hb : b < n) : ∀ i, i < n → swp f a b i ≤ M := fun i hi => by
  rw [swp_val]; exact hf _ (by split; exact hb; split; exact ha; exact hi)
/-- Two places of a row changed for one another. -/
theorem RowAt.swap {E : TypeId} {w : World} {g N n : Nat} {f : Nat → Nat} (h : RowAt .i64 E w g N n f) {a b : Nat} (ha : a < n) (hb : b < n) : RowAt .i64 E ((w.setCell ⟨g, a, none⟩ (.int .i64 (f b : Int))).setCell ⟨g, b, none⟩ (.int .i64 (f a : Int))) g N n (swp f a b) := by
  have := (h.set ha (f b)).set hb (f a)
  rw [swp_upd] at this
  exact this

/-- The places on the way up. -/
structure PutP (w wr : World) (T : TypeId) (hb : Nat) (cur : Array Value) (v : Value) (n x : Nat) (f : Nat → Nat) (g cap k : Nat) (f1 : Nat → Nat) : Prop where
  row : RowAt .i64 3 wr g cap (n + 1) f1
  up : UpP f1 (n + 1) k
  inj : Inj f1 (n + 1)
  mem : ∀ y, Mem f1 (n + 1) y ↔ (Mem f n y ∨ y = x)
  le : ∀ i, i < n + 1 → f1 i ≤ 65536
  blk : wr.heap[hb]? = some (.cells cur T (0, 0))
  fr : Fr (fun k => k = hb ∨ v.ownBlock = some k) w wr
  st : Stays w.heap.size v (.slice (some ⟨g, 0, none⟩) (n + 1) cap)
  cap : cap ≤ 9223372036854775807
  ne : g ≠ hb
  lt : hb < w.heap.size
theorem PutP.fin {w wr : World} {T : TypeId} {hb o : Nat} {cur : Array Value} {v : Value} {n x : Nat} {f : Nat → Nat} {g cap k : Nat} {f1 : Nat → Nat} (h : PutP w wr T hb cur v n x f g cap k f1) (hk : k = 0 ∨ f1 ((k - 1) / 2) ≤ f1 k) :
    ∃ v' f', (wr.setCell ⟨hb, o, none⟩ (.slice (some ⟨g, 0, none⟩) (n + 1) cap)).heap[hb]? = some (.cells (cur.setIfInBounds o v') T (0, 0)) ∧ Own .i64 3 (wr.setCell ⟨hb, o, none⟩ (.slice (some ⟨g, 0, none⟩) (n + 1) cap)) 0 v' (n + 1) f' ∧ Stays w.heap.size v v' ∧ Pl (n + 1) f' ∧ (∀ y, Mem f' (n + 1) y ↔ (Mem f n y ∨ y = x)) ∧ Fr (fun k => k = hb ∨ v.ownBlock = some k) w (wr.setCell ⟨hb, o, none⟩ (.slice (some ⟨g, 0, none⟩) (n + 1) cap)) :=
  ⟨_, f1, heap_setCell_same wr hb o cur T _ h.blk, .inr ⟨g, cap, rfl, Nat.zero_le _, h.cap, h.row.block (heap_setCell_other _ _ _ _ h.ne)⟩, h.st, ⟨upP_stop h.up hk, h.inj⟩, h.mem, h.fr.setCell (fun _ => .inl rfl) _ _⟩
theorem PutP.drewN {w wr : World} {T : TypeId} {hb : Nat} {cur : Array Value} {v : Value} {n x : Nat} {f : Nat → Nat} {g cap k : Nat} {f1 : Nat → Nat} (h : PutP w wr T hb cur v n x f g cap k f1) (q : Nat) : PutP w (wr.drewN q) T hb cur v n x f g cap k f1 :=
  ⟨h.row.block rfl, h.up, h.inj, h.mem, h.le, h.blk, h.fr.drewN q, h.st, h.cap, h.ne, h.lt⟩
theorem PutP.step {w wr : World} {T : TypeId} {hb : Nat} {cur : Array Value} {v : Value} {n x : Nat} {f : Nat → Nat} {g cap k p : Nat} {f1 : Nat → Nat} (h : PutP w wr T hb cur v n x f g cap k f1) (h0 : 0 < k) (hp : (k - 1) / 2 = p) (hk : f1 k ≤ f1 p) :
    PutP w ((wr.setCell ⟨g, p, none⟩ (.int .i64 (f1 k : Int))).setCell ⟨g, k, none⟩ (.int .i64 (f1 p : Int))) T hb cur v n x f g cap p (swp f1 p k) := by
  have hl := h.up.lt
  have hS : ∀ (_ : g < w.heap.size), g = hb ∨ v.ownBlock = some g := fun hg => by
    rcases h.st g rfl with e | e
    · exact .inr e
    · omega
  refine ⟨h.row.swap (by omega) hl, ?_, swp_inj (by omega) hl h.inj, fun y => ?_, swp_le h.le (by omega) hl, ?_, ?_, h.st, h.cap, h.ne, h.lt⟩
  · have := upP_step h.up h0 (by rw [hp]; exact hk)
    rw [hp] at this
    exact this
  · rw [swp_mem (by omega) hl]; exact h.mem y
  · refine (heap_setCell_other _ _ _ _ (Ne.symm h.ne)).trans ((heap_setCell_other _ _ _ _ (Ne.symm h.ne)).trans h.blk)
  · exact (h.fr.setCell hS _ _).setCell hS _ _

set_option maxRecDepth 20000 in
set_option maxHeartbeats 1000000 in
theorem put_any (T : TypeId) (w : World) (hb : Nat) (cur : Array Value) (o : Nat) (v : Value) (n x : Nat) (f : Nat → Nat) (hblk : w.heap[hb]? = some (.cells cur T (0, 0))) (hcv : cur[o]? = some v) (hov : Own .i64 3 w 0 v n f) (hnv : v.ownBlock ≠ some hb) (hn : n ≤ 65536) (hP : Pl n f) (hx : ¬ Mem f n x) (hx2 : x ≤ 65536) (hf : ∀ i, i < n → f i ≤ 65536) :
    Calls Try.prog 38 #[.pointer (some ⟨hb, o, none⟩), .int .i64 (x : Int)] w fun e w' => e = .returned (.tuple #[]) ∧ ∃ v' f', w'.heap[hb]? = some (.cells (cur.setIfInBounds o v') T (0, 0)) ∧ Own .i64 3 w' 0 v' (n + 1) f' ∧ Stays w.heap.size v v' ∧ Pl (n + 1) f' ∧ (∀ y, Mem f' (n + 1) y ↔ (Mem f n y ∨ y = x)) ∧ Fr (fun k => k = hb ∨ v.ownBlock = some k) w w' := by
  obtain ⟨iN, hiN, hz0, hz1, hz2⟩ := info_parts infoI
  have hc0 : w.cell? ⟨hb, o, none⟩ = some v := by rw [cell_of_row w hb o cur T (0, 0) hblk]; exact hcv
  have hlt : hb < w.heap.size := (Array.getElem?_eq_some_iff.1 hblk).1
  have hown := hov.row
  obtain ⟨ao, cap0, rfl⟩ := hov.shape
  have HB := hide hblk
  have HP := hide hP
  have HX := hide hx
  have HO := hide hov
  clear hblk hP hx hov
  go_enter Try.func38, Try.ntmps38
  go_wp2_with (at_builtin; refine wpList_append_lies _ rfl _ _ 58 rfl 0 3 iN (.int .i64 0) 1 8 Try.underlying58 hiN hz0 hz1 hz2 rfl (by decide) _ n _ rfl (hown.alloc _) ⟨w.heap.size, 0, none⟩ 1 1 [.int .i64 (x : Int)] rfl rfl (hcells_one _ _ _) (fun u hu => by simp at hu; subst hu; rfl) (by decide) (by unfold maxLen; omega) (by omega) (by simp) (w.heap.size + 1) (by simp) ?_; intro g1 cap1 w1 hown1 hgrow1 hat1 hlt1; have F1 : Fr (fun j => j = hb ∨ (Value.slice ao n cap0).ownBlock = some j) w w1 := ((Fr.refl _ w).alloc _).grow hgrow1 (fun k _ e => .inr e); have S1 := lies_stays (n := n + 1) (cap := cap1) (H := w.heap.size) hat1 (by omega); have O1 := Own.snoc hown1; have HF1 := hide F1; have HS1 := hide S1; have HO1 := hide O1; have HG1 := hide hgrow1; clear F1 S1 O1 hown1 hgrow1 hat1 hlt1)
  obtain ⟨-, hcap1, hrow1⟩ := HO1.out.out
  have hne : g1 ≠ hb := fun e => by
    rcases HS1.out g1 rfl with h | h
    · rw [e] at h; exact hnv h
    · omega
  have hle1 := hrow1.le
  have HI := hide (show PutP w w1 T hb cur (.slice ao n cap0) n x f g1 cap1 n (upd f n x) from ⟨hrow1, upP_start HP.out.heap, put_inj HP.out.inj HX.out, fun y => put_mem, upd_le hf hx2, (HG1.out.block hb (by simp; omega) (fun e => hnv e.symm)).trans ((heap_alloc_old w _ hlt).trans HB.out), HF1.out, HS1.out, hcap1, hne, hlt⟩)
  clear hrow1 hf hc0 hown
  go_loopw [5] (fun at' wr => ∃ k f1, at' = .int .i64 ((k : Nat) : Int) ∧ PutP w wr T hb cur (.slice ao n cap0) n x f g1 cap1 k f1) (fun at' _ => (intOf at').toNat)
  case atStart => exact ⟨n, _, rfl, HI.out⟩
  case round =>
    obtain ⟨k, f1, rfl, hI⟩ := hrel
    have hkn : k ≤ n := by have := hI.up.lt; omega
    have c1 : wr.cell? ⟨hb, o, none⟩ = some (.slice ao n cap0) := by rw [cell_of_row wr hb o cur T (0, 0) hI.blk]; exact hcv
    have z1 := frozen_of_row wr hb o cur T hI.blk
    by_cases h0 : 0 < k
    · obtain ⟨p, hp⟩ : ∃ p, (k - 1) / 2 = p := ⟨_, rfl⟩
      have hpi : ((k : Int) - 1) / 2 = (p : Int) := by omega
      have hpk : p < k := by omega
      have r1 := hI.row.cell (i := k) (by omega)
      have r2 := hI.row.cell (i := p) (by omega)
      have z2 := hI.row.free k
      have z3 := hI.row.free p
      have l1 := hI.le k (by omega)
      have l2 := hI.le p (by omega)
      have HII := hide hI
      clear hI
      by_cases hlt2 : f1 p < f1 k
      · go_wp2
        go_quiet (fail)
        go_wp2
        go_end0
        exact ⟨rfl, (HII.out.drewN _).fin (.inr (by rw [hp]; omega))⟩
      · go_wp2
        go_quiet (fail)
        go_wp2
        go_region
        go_wp2
        exact ⟨⟨p, _, by rw [hpi], (HII.out.drewN _).step h0 hp (by omega)⟩, by simp [intOf]; omega⟩
    · have e0 : k = 0 := by omega
      subst e0
      have HII := hide hI
      clear hI
      go_wp2
      go_end0
      exact ⟨rfl, HII.out.fin (.inl rfl)⟩

end Go.Proofs.Ytmogglmofbbjlaa
