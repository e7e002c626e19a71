/-
  What is proved here: package read's dotted, next and datum at any text.
-/
import Derived.Test.YteipogfolnlblaaWXU
import Derived.Test.YteipogfolnlblaaWXO
import Derived.Test.YteipogfolnlblaaWXJ
namespace Go.Proofs.Yteipogfolnlblaa
open Go Go.RowKit
theorem dot_of (t : ByteArray) (m : Nat) (ht : t.size ≤ 100000000) (hN : NextOK t (m + 1)) (hD : DatOK t m) : DotOK t m := by
  intro w0 rb h x y k a f lo I ao n cap xs w hs hh ha hm hf hrl hlo h0lo hIl hL
  have hl : t.data.toList.length = t.size := bytes_len t
  obtain ⟨ao', cap', e⟩ := hL.shape
  cases e
  have ih := rdM_ok t.data.toList f h
  have hn := ih.1 0 a (by rw [hl]; exact ha)
  have hnd := nd_ok ih (a := a) (by rw [hl]; exact ha)
  rw [hl] at hn
  have KN := fun (W : World) (hW : RS w0 rb t a (100 - h) W) => hN w0 rb h a f W hW (by omega) ha (by omega) (by omega)
  have pre : ∀ b, b ≤ t.size → t.size - b < m → 3 * (t.size - b) + 3 ≤ f → (nowP ((rdM t.data.toList f h).nx 0 b) ∧ 1 ≤ f) ∨ (t.size - ((rdM t.data.toList f h).nx 0 b).a < m ∧ 3 * (t.size - ((rdM t.data.toList f h).nx 0 b).a) + 4 ≤ f) := fun b hb h1 h2 => by
    have hn := ih.1 0 b (by rw [hl]; exact hb)
    rw [hl] at hn
    by_cases n0 : nowP ((rdM t.data.toList f h).nx 0 b)
    · exact .inl ⟨n0, by omega⟩
    · have g1 := hn.2 (fun e => n0 (.inr e))
      have g2 := g1.2.2 (fun e => n0 (.inl e))
      exact .inr ⟨by omega, by omega⟩
  have KD := fun (W : World) (hW : RS w0 rb t ((rdM t.data.toList f h).nx 0 a).a (100 - h) W) => hD w0 rb h _ f W hW (by omega) hn.1.1 hn.1.2.1 hn.1.2.2 (pre a ha hm hf)
  unfold dotM
  by_cases c4 : ((rdM t.data.toList f h).nx 0 a).k = 4
  · rw [if_pos c4]
    exact dot_close w0 rb t h x y k a (100 - h) lo I ao cap _ w hs hrl hlo KN c4
  rw [if_neg c4]
  match hr : (rdM t.data.toList f h).dt ((rdM t.data.toList f h).nx 0 a) with
  | .inl q' =>
    rw [hr] at KD
    have hq : q'.k = 11 := by have := hnd.1; rw [hr] at this; exact this
    obtain ⟨tx, ty, tk, tdk, tn, ts, ter, ta⟩ := q'
    have hq : tk = 11 := hq
    subst hq
    exact dot_bad w0 rb t h x y k a (100 - h) lo I ao cap _ w hs hrl hlo KN c4 tx ty tdk tn ter ta ts KD
  | .inr (x2, y2, tr, a1) =>
    rw [hr] at KD
    dsimp only
    have hlt := nd_lt (T := t.data.toList) (f := f) (h := h) (a := a) (by omega) (by rw [hl]; exact ha) hr
    rw [hl] at hlt
    have hit := (rdM_items t.data.toList f h).1 _ _ _ _ _ (by rw [hl]; exact hn.1.1) hn.1.2.1 hn.1.2.2 hr
    have hn2 := ih.1 0 a1 (by rw [hl]; exact hlt.2.2)
    rw [hl] at hn2
    have KN2 := fun (W : World) (hW : RS w0 rb t a1 (100 - h) W) => hN w0 rb h a1 f W hW (by omega) hlt.2.2 (by omega) (by omega)
    by_cases p4 : ((rdM t.data.toList f h).nx 0 a1).k = 4
    · rw [if_pos p4]
      exact dot_ok w0 rb t h x y k a (100 - h) lo I ao cap _ w hs hrl hlo KN c4 x2 y2 a1 tr _ KD KN2 p4 xs hL (by omega) h0lo
    rw [if_neg p4]
    have KD2 := fun (W : World) (hW : RS w0 rb t ((rdM t.data.toList f h).nx 0 a1).a (100 - h) W) => hD w0 rb h _ f W hW (by omega) hn2.1.1 hn2.1.2.1 hn2.1.2.2 (pre a1 hlt.2.2 (by omega) (by omega))
    have hnd2 := nd_ok ih (a := a1) (by rw [hl]; exact hlt.2.2)
    by_cases p0 : ((rdM t.data.toList f h).nx 0 a1).k = 0 ∨ ((rdM t.data.toList f h).nx 0 a1).k = 11
    · rw [if_pos p0]
      match hr2 : (rdM t.data.toList f h).dt ((rdM t.data.toList f h).nx 0 a1) with
      | .inl q' =>
        rw [hr2] at KD2
        have hq : q'.k = 11 := by have := hnd2.1; rw [hr2] at this; exact this
        obtain ⟨tx, ty, tk, tdk, tn, ts, ter, ta⟩ := q'
        have hq : tk = 11 := hq
        subst hq
        rcases p0 with p0 | p0
        · exact dot_now0 w0 rb t h x y k a (100 - h) lo I ao cap _ w hs hrl hlo KN c4 x2 y2 a1 tr _ KD KN2 p0 tx ty tdk tn ter ta ts KD2
        · exact dot_now11 w0 rb t h x y k a (100 - h) lo I ao cap _ w hs hrl hlo KN c4 x2 y2 a1 tr _ KD KN2 p0 tx ty tdk tn ter ta ts KD2
      | .inr (x3, y3, tr3, a3) =>
        exfalso
        have h3 := nd_lt (T := t.data.toList) (f := f) (h := h) (a := a1) (by omega) (by rw [hl]; exact hlt.2.2) hr2
        rcases p0 with p0 | p0
        · obtain ⟨g, rfl⟩ : ∃ g, f = g + 1 := ⟨f - 1, by omega⟩
          have e' : dtS t.data.toList (rdM t.data.toList g) h _ = .inr (x3, y3, tr3, a3) := hr2
          unfold dtS at e'
          rw [if_pos p0] at e'
          cases e'
        · obtain ⟨q, hq⟩ := dt_bad t.data.toList f h _ p0
          rw [hq] at hr2
          cases hr2
    rw [if_neg p0]
    exact dot_more w0 rb t h x y k a (100 - h) lo I ao cap _ w hs hrl hlo KN c4 x2 y2 a1 tr _ KD KN2 p4 (fun e => p0 (.inl e)) (fun e => p0 (.inr e))

/-- Whatever the text: datum and next do what the model does. -/
theorem datum_all (t : ByteArray) (ht : t.size ≤ 100000000) : ∀ m, DatOK t m
  | 0 => datum_of t 0 ht (fun w0 rb h x L k f w _ _ _ _ _ hm _ => by omega)
  | m + 1 => by
    have hD := datum_all t ht m
    have hN := next_of t m ht hD
    have hT := dot_of t m ht hN hD
    have hR := row_of t m ht hN hD hT
    have hA := abbr_of t m hN hD
    exact datum_of t (m + 1) ht (within_of t (m + 1) (nested_of t (m + 1) hR hA))

theorem next_all (t : ByteArray) (ht : t.size ≤ 100000000) (m : Nat) : NextOK t (m + 1) := next_of t m ht (datum_all t ht m)

end Go.Proofs.Yteipogfolnlblaa
