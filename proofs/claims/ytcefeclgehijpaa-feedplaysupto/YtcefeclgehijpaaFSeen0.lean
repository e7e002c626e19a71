/-
  What is proved here: what was seen, place by place, beside a square of masks; At by what a place says; no walk but At's.
-/
import Derived.Test.YtcefeclgehijpaaFTwo
namespace Go.Proofs.Ytcefeclgehijpaa
open Go Go.RowKit

theorem fnd_look_none {p c : Int} : ∀ {T : List PL} {j : Nat}, fnd p c (T.map PL.e) j = none → look p c (T.map PL.pm) = (0, -1)
  | [], _, _ => rfl
  | x :: T, j, h => by
    simp only [List.map_cons, fnd] at h
    split at h
    · cases h
    · rename_i hne
      simp only [List.map_cons, look]
      rw [if_neg (show ¬ (p = x.pm.p ∧ c = x.pm.c) from hne)]
      exact fnd_look_none h
theorem fnd_look_some {p c : Int} : ∀ {T : List PL} {i j : Nat} {e : PE}, fnd p c (T.map PL.e) j = some (i, e) → ∃ x ∈ T, x.e = e ∧ p = x.e.p ∧ c = x.e.c ∧ look p c (T.map PL.pm) = (x.m, x.k)
  | [], _, _, _, h => by cases h
  | x :: T, i, j, e, h => by
    simp only [List.map_cons, fnd] at h
    split at h
    · rename_i hk
      cases h
      refine ⟨x, by simp, rfl, hk.1, hk.2, ?_⟩
      simp only [List.map_cons, look]
      rw [if_pos (show p = x.pm.p ∧ c = x.pm.c from hk)]
      rfl
    · rename_i hne
      obtain ⟨y, hy, h1, h2, h3, h4⟩ := fnd_look_some h
      refine ⟨y, by simp [hy], h1, h2, h3, ?_⟩
      simp only [List.map_cons, look]
      rw [if_neg (show ¬ (p = x.pm.p ∧ c = x.pm.c) from hne)]
      exact h4
theorem at_look (w : World) (t r clock : Nat) (T : List PL) (h : TabAt w t r T clock) (p c : Int) :
    Calls Try.prog 16 #[.pointer (some ⟨t, 0, none⟩), .int .i64 p, .int .i64 c] w fun e w' => e = .returned (fdV p c (look p c (T.map PL.pm)).1 (look p c (T.map PL.pm)).2) ∧ Fr (fun _ => False) w w' := by
  cases hf : fnd p c (T.map PL.e) 0 with
  | none =>
    rw [fnd_look_none hf]
    exact at_none w t r clock T h p c hf
  | some ie =>
    obtain ⟨i, e0⟩ := ie
    obtain ⟨x, hx, rfl, h1, h2, h3⟩ := fnd_look_some hf
    have := at_some w t r clock T h p c i x hx hf
    rw [← h1, ← h2] at this
    rw [h3]
    exact this

/-- A square of masks in memory. -/
def IAt (w : World) (b : Nat) (M : Nat → Int) : Prop := ∃ cur, w.heap[b]? = some (.cells cur 47 (0, 0)) ∧ cur.size = 25 ∧ ∀ q, q < 25 → cur[q]? = some (.int .i64 (M q))
def updM (M : Nat → Int) (q : Nat) (x : Int) : Nat → Int := fun j => if j = q then x else M j
theorem IAt.lt {w : World} {b : Nat} {M : Nat → Int} (h : IAt w b M) : b < w.heap.size := by
  obtain ⟨cur, h1, -⟩ := h
  exact lt_of_block h1
theorem IAt.cell {w : World} {b : Nat} {M : Nat → Int} (h : IAt w b M) {q : Nat} (hq : q < 25) : w.cell? ⟨b, q, none⟩ = some (.int .i64 (M q)) := by
  obtain ⟨cur, h1, h2, h3⟩ := h
  rw [cell_of_row w b q cur _ _ h1]
  exact h3 q hq
theorem IAt.free {w : World} {b : Nat} {M : Nat → Int} (h : IAt w b M) (q : Nat) : w.frozen? ⟨b, q, none⟩ = false := by
  obtain ⟨cur, h1, -⟩ := h
  exact frozen_of_row w b q cur _ h1
theorem IAt.keep {w w' : World} {b : Nat} {M : Nat → Int} (h : IAt w b M) (hb : w'.heap[b]? = w.heap[b]?) : IAt w' b M := by
  obtain ⟨cur, h1, h2⟩ := h
  exact ⟨cur, hb.trans h1, h2⟩
theorem IAt.set {w : World} {b : Nat} {M : Nat → Int} (h : IAt w b M) {q : Nat} (hq : q < 25) (x : Int) : IAt (w.setCell ⟨b, q, none⟩ (.int .i64 x)) b (updM M q x) := by
  obtain ⟨cur, h1, h2, h3⟩ := h
  refine ⟨cur.setIfInBounds q (.int .i64 x), heap_setCell_same w b q cur _ _ h1, by simpa using h2, fun j hj => ?_⟩
  by_cases e : j = q
  · subst e
    rw [Array.getElem?_setIfInBounds_self_of_lt (by omega)]
    simp [updM]
  · rw [Array.getElem?_setIfInBounds_ne (by omega), h3 j hj]
    simp [updM, e]

/-- What was seen so far, in the table and in the square. -/
structure SN (w wr : World) (t r : Nat) (T : List PL) (clk mb : Nat) (M : Nat → Int) : Prop where
  tab : TabAt wr t r T clk
  ar : IAt wr mb M
  apart : ¬ tfoot t r T mb
  new : ∀ k, tfoot t r T k → w.heap.size ≤ k
  newm : w.heap.size ≤ mb
  fr : Fr (fun _ => False) w wr
  lk : ∀ a c : Nat, a < 5 → c < 5 → look (a : Int) (c : Int) (T.map PL.pm) = (M (a * 5 + c), -1)
  ks : ∀ x ∈ T, ∃ a c : Nat, a < 5 ∧ c < 5 ∧ x.e.p = (a : Int) ∧ x.e.c = (c : Int)
  nm : NrmS (T.map PL.pm)
theorem SN.same {w wr w' : World} {t r : Nat} {T : List PL} {clk mb : Nat} {M : Nat → Int} (h : SN w wr t r T clk mb M) (F : Fr (fun _ => False) wr w') : SN w w' t r T clk mb M :=
  ⟨h.tab.same F, h.ar.keep (F.block _ h.ar.lt (fun e => e)), h.apart, h.new, h.newm, h.fr.trans F (fun _ _ e => e), h.lk, h.ks, h.nm⟩
theorem bit_eq {kk : Nat} (h1 : 1 ≤ kk) (h2 : kk ≤ 62) : mk (fun _ => (kk : Int)) 1 = 2 ^ kk := by
  have e : (2 : Int) ^ kk = ((2 ^ kk : Nat) : Int) := (Int.natCast_pow 2 kk).symm
  have hb : 2 ^ kk ≤ 4611686018427387904 := Nat.le_trans (Nat.pow_le_pow_right (by decide) h2) (by decide)
  unfold mk mk
  rw [if_pos (by omega), Int.toNat_natCast, e]
  clear e
  generalize 2 ^ kk = y at *
  exact orI_zero _ (by omega) (by omega)
theorem SN.see {w wr wx w' : World} {t r : Nat} {T : List PL} {clk mb : Nat} {M : Nat → Int} (h : SN w wr t r T clk mb M) {a c : Nat} (ha : a < 5) (hc : c < 5) {x : Int} (hx : x ≠ 0)
    (A : Adv wr wx t r T (addS (T.map PL.pm) ⟨(a : Int), (c : Int), x, -1⟩)) (hw' : w' = wx.setCell ⟨mb, a * 5 + c, none⟩ (.int .i64 (orI (M (a * 5 + c)) x))) : ∃ T' clk', SN w w' t r T' clk' mb (updM M (a * 5 + c) (orI (M (a * 5 + c)) x)) := by
  obtain ⟨T', c', B', F', g', e'⟩ := A
  have hmb : mb < wr.heap.size := h.ar.lt
  have arx : IAt wx mb M := h.ar.keep (F'.block _ hmb h.apart)
  have hap : ¬ tfoot t r T' mb := fun hk => by
    rcases g' mb hk with q | q
    · exact h.apart q
    · omega
  subst hw'
  have hFs : Fr (fun k => k = mb) wx (wx.setCell ⟨mb, a * 5 + c, none⟩ (.int .i64 (orI (M (a * 5 + c)) x))) := by
    have q : Fr (fun k => k = mb) wx wx := Fr.refl _ _
    exact q.setCell (fun _ => rfl) _ _
  have hFw : Fr (fun _ => False) w wx := h.fr.trans F' (fun k hk hs => by have := h.new k hs; omega)
  refine ⟨T', c', ⟨B'.fr hFs (fun k hk e => hap (e ▸ hk)), arx.set (by omega) _, hap, ?_, h.newm, hFw.trans hFs (fun k hk e => by have := h.newm; omega), ?_, ?_, ?_⟩⟩
  · intro k hk
    rcases g' k hk with q | q
    · exact h.new k q
    · have := h.fr.size
      omega
  · intro a2 c2 ha2 hc2
    rw [e', look_add _ _ _ h.nm, h.lk a2 c2 ha2 hc2]
    by_cases e : a2 * 5 + c2 = a * 5 + c
    · have e1 : a2 = a := by omega
      have e2 : c2 = c := by omega
      subst e1 e2
      rw [if_pos ⟨rfl, rfl⟩]
      simp [JJ, Fd.mk2, updM, jc]
      decide
    · rw [if_neg (fun hh => e (by have h1 : (a2 : Int) = (a : Int) := hh.1; have h2 : (c2 : Int) = (c : Int) := hh.2; omega))]
      simp [updM, e]
  · intro y hy
    have hm : y.pm ∈ addS (T.map PL.pm) ⟨(a : Int), (c : Int), x, -1⟩ := by rw [← e']; exact List.mem_map.2 ⟨y, hy, rfl⟩
    unfold addS at hm
    rw [if_neg (fun hh => hx hh.1)] at hm
    rcases ins_keys _ _ _ hm with ⟨z, hz, e⟩ | e
    · obtain ⟨z', hz', rfl⟩ := List.mem_map.1 hz
      obtain ⟨a3, c3, q1, q2, q3, q4⟩ := h.ks z' hz'
      simp only [Prod.mk.injEq, PL.pm] at e
      exact ⟨a3, c3, q1, q2, by rw [e.1, q3], by rw [e.2, q4]⟩
    · simp only [keyF, Prod.mk.injEq, PL.pm] at e
      exact ⟨a, c, ha, hc, e.1, e.2⟩
  · rw [e']
    exact add_nrm h.nm _

theorem SN.len {w wr : World} {t r : Nat} {T : List PL} {clk mb : Nat} {M : Nat → Int} (h : SN w wr t r T clk mb M) : T.length ≤ 25 := by
  have h1 : (T.map fun x => (x.e.p, x.e.c)).length ≤ ((List.range 25).map fun q => (((q / 5 : Nat) : Int), ((q % 5 : Nat) : Int))).length := by
    refine List.Nodup.length_le_of_subset h.tab.ky ?_
    intro b hb
    obtain ⟨x, hx, rfl⟩ := List.mem_map.1 hb
    obtain ⟨a, c, ha, hc, e1, e2⟩ := h.ks x hx
    refine List.mem_map.2 ⟨a * 5 + c, List.mem_range.2 (by omega), ?_⟩
    rw [e1, e2, show (a * 5 + c) / 5 = a by omega, show (a * 5 + c) % 5 = c by omega]
  simpa using h1
/-- How many of the first q masks are not 0. -/
def cnt (M : Nat → Int) : Nat → Nat
  | 0 => 0
  | q + 1 => cnt M q + (if M q = 0 then 0 else 1)
theorem cnt_succ (M : Nat → Int) (q : Nat) : cnt M (q + 1) = cnt M q + (if M q = 0 then 0 else 1) := rfl
theorem cnt_eq (M : Nat → Int) (q : Nat) : cnt M q = ((List.range q).filter fun i => decide (M i ≠ 0)).length := by
  induction q with
  | zero => rfl
  | succ k ih =>
    rw [List.range_succ, List.filter_append, List.length_append, ← ih]
    rw [cnt_succ]
    by_cases h : M k = 0 <;> simp [h]
theorem cnt_le (M : Nat → Int) (q : Nat) : cnt M q ≤ q := by
  induction q with
  | zero => exact Nat.le_refl _
  | succ k ih => rw [cnt_succ]; split <;> omega
theorem SN.count {w wr : World} {t r : Nat} {T : List PL} {clk mb : Nat} {M : Nat → Int} (h : SN w wr t r T clk mb M) : (fds T).length = cnt M 25 := by
  have hk := fds_keys h.tab.ky
  have hmem : ∀ f ∈ fds T, ∃ a c : Nat, a < 5 ∧ c < 5 ∧ f.p = (a : Int) ∧ f.c = (c : Int) ∧ M (a * 5 + c) ≠ 0 := by
    intro f hf
    have h2 := (fds_mem h.tab.ky f).1 hf
    obtain ⟨x, hx, rfl⟩ := List.mem_map.1 hf
    obtain ⟨a, c, ha, hc, e1, e2⟩ := h.ks x (List.mem_filter.1 hx).1
    refine ⟨a, c, ha, hc, e1, e2, fun e0 => h2.2 ?_⟩
    have := h2.1
    rw [show x.fd.p = (a : Int) from e1, show x.fd.c = (c : Int) from e2, h.lk a c ha hc, e0] at this
    exact this.symm
  have hp : ((fds T).map fun f => f.p.toNat * 5 + f.c.toNat).Perm ((List.range 25).filter fun i => decide (M i ≠ 0)) := by
    rw [List.perm_ext_iff_of_nodup]
    · intro q
      constructor
      · intro hq
        obtain ⟨f, hf, rfl⟩ := List.mem_map.1 hq
        obtain ⟨a, c, ha, hc, e1, e2, h0⟩ := hmem f hf
        refine List.mem_filter.2 ⟨List.mem_range.2 (by omega), ?_⟩
        rw [e1, e2]
        simpa using h0
      · intro hq
        obtain ⟨h1, h2⟩ := List.mem_filter.1 hq
        have hq25 := List.mem_range.1 h1
        have hl := h.lk (q / 5) (q % 5) (by omega) (by omega)
        rw [show q / 5 * 5 + q % 5 = q by omega] at hl
        refine List.mem_map.2 ⟨⟨((q / 5 : Nat) : Int), ((q % 5 : Nat) : Int), M q, -1⟩, (fds_mem h.tab.ky _).2 ⟨hl, ?_⟩, ?_⟩
        · intro e
          simp only [Fd.mk2, Prod.mk.injEq] at e
          simp [e.1] at h2
        · show ((q / 5 : Nat) : Int).toNat * 5 + ((q % 5 : Nat) : Int).toNat = q
          omega
    · rw [List.Nodup, List.pairwise_map]
      have hpw := List.pairwise_map.1 hk
      refine List.Pairwise.imp_of_mem ?_ hpw
      intro f g hf hg hne e
      obtain ⟨a, c, ha, hc, e1, e2, -⟩ := hmem f hf
      obtain ⟨a', c', ha', hc', e1', e2', -⟩ := hmem g hg
      apply hne
      rw [e1, e2, e1', e2'] at e
      simp only [keyF, Prod.mk.injEq]
      rw [e1, e2, e1', e2']
      simp at e
      omega
    · exact List.filter_sublist.nodup List.nodup_range
  have := hp.length_eq
  rw [List.length_map] at this
  rw [this, cnt_eq]

end Go.Proofs.Ytcefeclgehijpaa
