/-
  What is proved here: package show's told, Write, Display: a datum as the text that it is.
-/
import Derived.Test.YtfplplobhmacoaaGreatDoorSGo3
import Derived.Deep.LoopGhost
namespace Go.Proofs.YtfplplobhmacoaaGreatDoor
open Go Go.RowKit

theorem wr_le : (h : Nat) → (sh : Bool) → (d : Tr h) → (∀ w cs, DatC w h d cs → (wr h sh d).length + 1 ≤ 60 * bk h d)
  | 0, _, d => nomatch d
  | h + 1, sh, (k, n, b, L, t, I, R) => by
    intro w cs hd
    obtain ⟨um, ui, ur, -, -, -, hL, hI, hR⟩ := hd
    have key : ∀ (l : List (Tr h)) (v : Value), RowD w (DatC w h) v l → ∀ (s : Bool) (a : Tr h), a ∈ l → (wr h s a).length + 1 ≤ 60 * bk h a := fun l v hl s a ha => by
      obtain ⟨i, hi, rfl⟩ := List.getElem_of_mem ha
      obtain ⟨ao, cap, rfl⟩ := hl.shape
      obtain ⟨-, b, off, -, cs, -, -, hc⟩ := hl.get hi
      exact wr_le h s _ w cs hc
    have keyI : ∀ (s : Bool) (l : List (Tr h)) (g : List UInt8), (∀ a ∈ l, (wr h s a).length + 1 ≤ 60 * bk h a) → (its (wr h s) g l).length ≤ g.length + 60 * (l.map (bk h)).sum := fun s l => by
      induction l with
      | nil => intro g _; simp [its]
      | cons a l ih =>
        intro g hg
        have h1 := ih [32] (fun x hx => hg x (by simp [hx]))
        have h2 := hg a (by simp)
        simp only [its, List.length_append, List.map_cons, List.sum_cons, List.length_singleton] at *
        omega
    have keyD : ∀ (s : Bool) (l : List (Tr h)), (∀ a ∈ l, (wr h s a).length + 1 ≤ 60 * bk h a) → (dotW (wr h s) l).length ≤ 3 + 60 * (l.map (bk h)).sum := fun s l hg => by
      cases l with
      | nil => simp [dotW]
      | cons a l =>
        have h2 := hg a (by simp)
        simp only [dotW, List.length_append, List.map_cons, List.sum_cons, List.length_cons, List.length_nil]
        omega
    have i1 := keyI sh I [] (fun a ha => key I ui hI sh a ha)
    have i2 := keyI false I [32] (fun a ha => key I ui hI false a ha)
    have r1 := keyD sh R (fun a ha => key R ur hR sh a ha)
    have hz := ztx_le b (fun i => L.getD i 0) L.length hL
    have hc := chW_le n
    have ht := tsW_le t.data.toList
    have htl := bytes_len t
    have hrest : ∀ r R', R = r :: R' → (wr h sh r).length + 1 ≤ 60 * bk h r := fun r R' e => key R ur hR sh r (by simp [e])
    simp only [wr, bk]
    by_cases k1 : k = 1
    · rw [if_pos k1]; omega
    rw [if_neg k1]
    by_cases k2 : k = 2
    · rw [if_pos k2]; split <;> simp <;> omega
    rw [if_neg k2]
    by_cases k3 : k = 3
    · rw [if_pos k3]; split <;> simp <;> omega
    rw [if_neg k3]
    by_cases k4 : k = 4
    · rw [if_pos k4]; split <;> simp <;> omega
    rw [if_neg k4]
    by_cases k5 : k = 5
    · rw [if_pos k5]; omega
    rw [if_neg k5]
    by_cases k6 : k = 6
    · rw [if_pos k6]
      split
      · have := hrest _ _ rfl
        simp only [List.map_cons, List.sum_cons]
        omega
      · simp only [List.length_append, List.length_singleton, List.length_nil] at *
        omega
    rw [if_neg k6]
    by_cases k7 : k = 7
    · rw [if_pos k7]
      simp only [List.length_append, List.length_cons, List.length_nil] at *
      omega
    rw [if_neg k7]
    by_cases k9 : k = 9
    · rw [if_pos k9]; simp; omega
    rw [if_neg k9]
    by_cases k10 : k = 10
    · rw [if_pos k10]
      simp only [List.length_append, List.length_cons, List.length_nil] at *
      omega
    rw [if_neg k10]
    simp
    omega

set_option maxHeartbeats 4000000 in
set_option maxRecDepth 100000 in
theorem told_any (sh : Bool) (w : World) (h : Nat) (d : Tr h) (c0 c1 c2 c3 c4 c5 c6 : Value) (htab : Tab w) (hb : bk h d ≤ 10000000) (hd : DatC w h d [c0, c1, c2, c3, c4, c5, c6]) :
    Calls Tryz.prog 13 #[.agg #[c0, c1, c2, c3, c4, c5, c6], .int .i64 (howI sh)] w fun e w' => e = .returned (.string ⟨(wr h sh d).toArray⟩) ∧ Up w w' := by
  have hwr := wr_le h sh d w _ hd
  obtain ⟨kk, kn, kb, um, kt, ui, ur, he, ⟨x1, x2, x3, rfl⟩, ⟨y1, y2, y3, rfl⟩, ⟨z1, z2, z3, rfl⟩⟩ : ∃ k n bb um t ui ur, ([c0, c1, c2, c3, c4, c5, c6] : List Value) = [.int .i64 k, .int .i64 n, .bool bb, um, .string t, ui, ur] ∧ (∃ ao l cap, um = .slice ao l cap) ∧ (∃ ao l cap, ui = .slice ao l cap) ∧ (∃ ao l cap, ur = .slice ao l cap) := by
    match h, d, hd with
    | 0, d, _ => exact nomatch d
    | h + 1, (k, n, bb, L, t, I, R), hd =>
      obtain ⟨um, ui, ur, e, -, hM, -, hI, hR⟩ := hd
      obtain ⟨a1, c1, rfl, -⟩ := hM
      obtain ⟨a2, c2, rfl⟩ := hI.shape
      obtain ⟨a3, c3, rfl⟩ := hR.shape
      exact ⟨_, _, _, _, _, _, _, e, ⟨_, _, _, rfl⟩, ⟨_, _, _, rfl⟩, ⟨_, _, _, rfl⟩⟩
  simp at he
  obtain ⟨rfl, rfl, rfl, rfl, rfl, rfl, rfl⟩ := he
  obtain ⟨W, hW⟩ : ∃ W, W = (w.alloc (.cells #[.int .i64 kk, .int .i64 kn, .bool kb, .slice x1 x2 x3, .string kt, .slice y1 y2 y3, .slice z1 z2 z3] 32)).alloc (.cells #[.pointer none, .slice none 0 0, .slice none 0 0] 58) := ⟨_, rfl⟩
  have u0 : Up w W := by rw [hW]; exact (up_alloc w _).tr (up_alloc _ _)
  have b0 : W.heap[w.heap.size]? = some (.cells #[.int .i64 kk, .int .i64 kn, .bool kb, .slice x1 x2 x3, .string kt, .slice y1 y2 y3, .slice z1 z2 z3] 32 (0, 0)) := by
    rw [hW]
    exact (heap_alloc_old _ _ (r := w.heap.size) (by simp)).trans (heap_alloc_new w _)
  have b1 : W.heap[w.heap.size + 1]? = some (.cells #[.pointer none, .slice none 0 0, .slice none 0 0] 58 (0, 0)) := by
    rw [hW]
    have := heap_alloc_new (w.alloc (.cells #[.int .i64 kk, .int .i64 kn, .bool kb, .slice x1 x2 x3, .string kt, .slice y1 y2 y3, .slice z1 z2 z3] 32)) (.cells #[.pointer none, .slice none 0 0, .slice none 0 0] 58)
    rw [World.size_alloc] at this
    exact this
  have hS : TS w (w.heap.size + 1) [] [] W := ⟨u0, .slice none 0 0, [], ⟨by omega, _, _, b1, .inl rfl, World.ownsRow_nil _ _ _ _⟩, World.ownsRow_nil _ _ _ _, rfl⟩
  have KD := datum_any w (w.heap.size + 1) [] [] sh W h d _ _ _ _ _ _ _ hS htab (by simp; omega) (by simp) hd
  have KG := fun (out : List UInt8) (σ : List RowP) (W1 : World) (h1 : TS w (w.heap.size + 1) out σ W1) (hne : σ ≠ []) (he : out ++ pendA σ = wr h sh d) (hw : wtA σ ≤ bk h d) => goOn_any w (w.heap.size + 1) out σ W1 h1 hne htab (by rw [he]; omega) (by omega)
  obtain ⟨n0, n1, n2, n3, n4, n5, n6⟩ := cells7 b0
  have HD := hide KD
  have HG := hide KG
  have HW := hide hW
  have HL := hide hwr
  have HB := hide hb
  clear KD KG hS b0 b1 hwr hb hd htab u0 hW
  generalize hT : wr h sh d = T at *
  have HTT := hide hT
  clear hT
  generalize howI sh = hw at *
  go_enter Tryz.func13, Tryz.ntmps13
  go_wp2_with fail
  rw [← HW.out]
  go_wp2_with (go_at_call 23; refine HD.out.mono ?_; rintro e w3 ⟨rfl, h3⟩)
  obtain ⟨o3, s3, t1, t2, t3⟩ := h3
  have H3 := hide (And.intro t1 (And.intro t2 t3))
  clear t1 t2 t3
  go_loopg [] (wtA s3) (fun k w' => ∃ out σ, TS w (w.heap.size + 1) out σ w' ∧ out ++ pendA σ = T ∧ wtA σ ≤ k ∧ wtA σ ≤ bk h d)
  case atStart => exact ⟨o3, s3, H3.out.1, by have := H3.out.2.1; rw [HTT.out] at this; simpa [pendA] using this, Nat.le_refl _, by have := H3.out.2.2; simp [wtA] at this ⊢; omega⟩
  case round =>
    obtain ⟨out, σ, hS, he, hk, hbk⟩ := hrel
    obtain ⟨hu, rv, xs, r1, r2, r3⟩ := id hS
    obtain ⟨ao, cap, rfl⟩ : ∃ ao cap, rv = .slice ao σ.length cap := by
      rcases r2.2 with ⟨e, e0⟩ | ⟨g, cap, cur, e, _⟩
      · exact ⟨none, 0, by rw [e, e0]⟩
      · exact ⟨_, _, e⟩
    have c0 := r1.rows
    by_cases hne : σ = []
    · subst hne
      have e1 : out = T := by simpa [pendA] using he
      have KS := bstring_any _ _ out _ _ r1 (by rw [e1]; have := HL.out; have := HB.out; omega)
      rw [e1] at KS
      have HS := hide KS
      have HU := hide hu
      simp only [List.length_nil] at c0
      clear KS hS he hk hbk hu r1 r2 r3 e1
      go_wp2_with (go_at_call 25; refine HS.out.mono ?_; rintro e w5 ⟨rfl, hb5⟩)
      go_ret
      exact ⟨rfl, HU.out.trans hb5⟩
    · have hl0 : 0 < σ.length := List.length_pos_iff.2 hne
      have hlI : (0 : Int) < (σ.length : Int) := by omega
      have KX := HG.out out σ _ hS hne he hbk
      have HX := hide KX
      have HK := hide (And.intro he (And.intro hk hbk))
      clear KX hS he hk hbk hu r1 r2 r3 hne
      go_wp2_with (go_at_call 24; refine HX.out.mono ?_; rintro e w5 ⟨rfl, h5⟩)
      obtain ⟨o5, s5, q1, q2, q3⟩ := h5
      have HQ := hide (And.intro q1 (And.intro q2 q3))
      clear q1 q2 q3
      go_roundg (wtA s5)
      case measure => have := HQ.out.2.2; have := HK.out.2.1; omega
      case rel => exact ⟨o5, s5, HQ.out.1, HQ.out.2.1.trans HK.out.1, Nat.le_refl _, by have := HQ.out.2.2; have := HK.out.2.2; omega⟩

end Go.Proofs.YtfplplobhmacoaaGreatDoor
