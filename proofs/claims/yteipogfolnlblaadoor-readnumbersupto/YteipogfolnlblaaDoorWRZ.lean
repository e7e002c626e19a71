/-
  What is proved here: package read's quoted.
-/
import Derived.Test.YteipogfolnlblaaDoorWRY
import Derived.Test.YteipogfolnlblaaDoorWR1
namespace Go.Proofs.YteipogfolnlblaaDoor
open Go Go.RowKit
/-- Where a reader is. -/
def atR (w : World) (rb : Nat) : Nat := match w.cell? ⟨rb, 1, none⟩ with
  | some (.int _ v) => v.toNat
  | _ => 0

theorem RS.at {w0 : World} {rb : Nat} {t : ByteArray} {a d : Nat} {w : World} (h : RS w0 rb t a d w) : atR w rb = a := by
  have c1 : w.cell? ⟨rb, 1, none⟩ = some (.int .i64 a) := cell_of_row _ rb 1 _ _ _ h.cs
  unfold atR
  rw [c1]
  simp

/-- What comes of a text's bytes, from a on, acc being read. -/
def quoP (T : List UInt8) (x : Nat) : Nat → Nat → List UInt8 → LP
  | 0, a, _ => ftP 0 0 a
  | f + 1, a, acc =>
    match T.drop a with
    | [] => ftP T.length 10 a
    | c :: l =>
      if c = 34 then ⟨x, a + 1, 10, 4, 0, ⟨acc.toArray⟩, 0, a + 1⟩
      else if c = 92 then (if (escP T.length a (c :: l)).k = 11 then escP T.length a (c :: l) else quoP T x f (escP T.length a (c :: l)).a (acc ++ [(escP T.length a (c :: l)).n.toUInt8]))
      else quoP T x f (a + 1) (acc ++ [c])

/-- An escape is wrong, or is a byte. -/
def escOK (a m : Nat) (p : LP) : Prop := (p.k = 11 ∧ p.a = a) ∨ (p.k = 10 ∧ a + 2 ≤ p.a ∧ p.a ≤ a + m ∧ p.n < 256 ∧ p.dk = 3 ∧ p.er = 0 ∧ p.s = ⟨#[]⟩)

theorem hexeP_ok (n a : Nat) (l : List UInt8) (h2 : 2 ≤ l.length) : escOK a l.length (hexeP n a l) := by
  unfold hexeP
  obtain ⟨N, D, eN, hN, hD, hDl⟩ := hexP_nn (l.drop 2)
  rw [List.length_drop] at hDl
  rw [eN]
  simp only [Int.toNat_natCast]
  split
  · exact .inl ⟨rfl, rfl⟩
  · split
    · exact .inr ⟨rfl, by show a + 2 ≤ a + _; omega, by show a + _ ≤ a + _; omega, hN, rfl, rfl, rfl⟩
    · exact .inl ⟨rfl, rfl⟩

theorem escP_ok (n a : Nat) (l : List UInt8) : escOK a l.length (escP n a l) := by
  unfold escP
  split
  · rename_i x l'
    have st : ∀ (y : UInt8) v, v < 256 → escOK a (y :: x :: l').length (stP a 2 v) := fun y v hv => .inr ⟨rfl, Nat.le_refl _, by show a + 2 ≤ a + _; simp, hv, rfl, rfl, rfl⟩
    split
    · exact st _ _ (by decide)
    split
    · exact st _ _ (by decide)
    split
    · exact st _ _ (by decide)
    split
    · exact st _ _ (by decide)
    split
    · exact hexeP_ok n a _ (by simp)
    · exact .inl ⟨rfl, rfl⟩
  · exact .inl ⟨rfl, rfl⟩

set_option maxHeartbeats 16000000 in
set_option maxRecDepth 100000 in
theorem quoted_P (w0 : World) (rb : Nat) (t : ByteArray) (a d : Nat) (O : LP) (f : Nat) (w : World) (h : RS w0 rb t a d w) (ht : t.size ≤ 100000000) (hat : a ≤ t.size) (hf : t.size - a < f) :
    Calls Tryd.prog 24 #[.pointer (some ⟨rb, 0, none⟩), pcP O] w fun e w' => e = .returned (pcP (quoP t.data.toList O.x f a [])) ∧ RS w0 rb t (quoP t.data.toList O.x f a []).a d w' ∧ Kr rb w w' := by
  have u1 := up_alloc w (.cells #[.int .i64 (O.x : Int), .int .i64 (O.y : Int), .int .i64 (O.k : Int), .int .i64 (O.dk : Int), .int .i64 (O.n : Int), .bool false, .slice none 0 0, .string O.s, .slice none 0 0, .slice none 0 0, .int .i64 (O.er : Int)] 50)
  have g1 := heap_alloc_new w (.cells #[.int .i64 (O.x : Int), .int .i64 (O.y : Int), .int .i64 (O.k : Int), .int .i64 (O.dk : Int), .int .i64 (O.n : Int), .bool false, .slice none 0 0, .string O.s, .slice none 0 0, .slice none 0 0, .int .i64 (O.er : Int)] 50)
  have z1 : (w.alloc (.cells #[.int .i64 (O.x : Int), .int .i64 (O.y : Int), .int .i64 (O.k : Int), .int .i64 (O.dk : Int), .int .i64 (O.n : Int), .bool false, .slice none 0 0, .string O.s, .slice none 0 0, .slice none 0 0, .int .i64 (O.er : Int)] 50)).heap.size = w.heap.size + 1 := World.size_alloc _ _
  obtain ⟨W1, hW1⟩ : ∃ W1, W1 = w.alloc (.cells #[.int .i64 (O.x : Int), .int .i64 (O.y : Int), .int .i64 (O.k : Int), .int .i64 (O.dk : Int), .int .i64 (O.n : Int), .bool false, .slice none 0 0, .string O.s, .slice none 0 0, .slice none 0 0, .int .i64 (O.er : Int)] 50) := ⟨_, rfl⟩
  rw [← hW1] at u1 g1 z1
  have u2 := up_alloc W1 zer11
  have g2 : (W1.alloc zer11).heap[w.heap.size + 1]? = some zer11 := by rw [← z1]; exact heap_alloc_new W1 zer11
  have g1' := u2.old g1
  obtain ⟨W2, hW2⟩ : ∃ W2, W2 = W1.alloc zer11 := ⟨_, rfl⟩
  rw [← hW2] at u2 g2 g1'
  have uB := u1.tr u2
  have hlt : rb < w.heap.size := h.lt
  have hs2 : w0.heap.size ≤ W2.heap.size := (h.up.tr uB).size
  have hlt2 : rb < W2.heap.size := Nat.lt_of_lt_of_le hlt uB.size
  have hA : RS w0 rb t a d W2 := ⟨h.up.tr uB, h.ge, uB.old h.cs⟩
  have hq0 : QS w0 W2 rb t a d (.slice none 0 0) [] W2 := ⟨hA, hlt2, hs2, Kr.refl _ _, World.ownsRow_nil _ _ _ _⟩
  have hsz : w0.heap.size ≤ w.heap.size := h.up.size
  have hTl : t.data.toList.length = t.size := bytes_len t
  have HG := hide (And.intro g1' (And.intro g2 (And.intro uB (And.intro hlt hsz))))
  have HQ0 := hide hq0
  have HW2 := hide (show W2 = (w.alloc (.cells #[.int .i64 (O.x : Int), .int .i64 (O.y : Int), .int .i64 (O.k : Int), .int .i64 (O.dk : Int), .int .i64 (O.n : Int), .bool false, .slice none 0 0, .string O.s, .slice none 0 0, .slice none 0 0, .int .i64 (O.er : Int)] 50)).alloc zer11 from by rw [hW2, hW1])
  obtain ⟨P, hP⟩ : ∃ P, P = quoP t.data.toList O.x f a [] := ⟨_, rfl⟩
  rw [← hP]
  have HP := hide hP
  have HF := hide (And.intro hf hat)
  unfold pcP pcV
  unfold zer11 at HG HW2
  clear u1 g1 z1 hW1 u2 g2 g1' hW2 uB hA hq0 hs2 hlt2 h hP hf hat
  clear W1
  go_enter Tryd.func24, Tryd.ntmps24
  go_wp2_with fail
  rw [← HW2.out]
  go_loopw [5] (fun a5 wr => ∃ (A f : Nat) (S : List UInt8), QS w0 W2 rb t A d a5 S wr ∧ A ≤ t.size ∧ S.length ≤ A ∧ t.size - A < f ∧ P = quoP t.data.toList O.x f A S) (fun _ wr => t.size - atR wr rb)
  case atStart => exact ⟨a, f, [], HQ0.out, HF.out.2, Nat.zero_le _, HF.out.1, HP.out⟩
  case round =>
    obtain ⟨A, f, S, hQ, hAt, hSA, hf, hP⟩ := hrel
    have HFF := hide hf
    obtain ⟨ao, cap, rfl⟩ := hQ.shape
    have hat := hQ.rs.at
    have HAT := hide hat
    clear hat
    have c0 := cell_of_row _ rb 0 _ _ _ hQ.rs.cs
    have c1 := cell_of_row _ rb 1 _ _ _ hQ.rs.cs
    rw [show (#[.string t, .int .i64 (A : Int), .int .i64 (d : Int)] : Array Value)[0]? = some (.string t) from rfl] at c0
    rw [show (#[.string t, .int .i64 (A : Int), .int .i64 (d : Int)] : Array Value)[1]? = some (.int .i64 (A : Int)) from rfl] at c1
    obtain ⟨f, rfl⟩ : ∃ f', f = f' + 1 := ⟨f - 1, by omega⟩
    simp only [quoP] at hP
    rw [hTl] at hP
    match hl : t.data.toList.drop A with
    | [] =>
      rw [hl] at hP
      simp only [] at hP
      have hz : t.size - A = 0 := by rw [← hTl, ← List.length_drop, hl]; rfl
      have KU := fun (W : World) (u : Up wr W) => cut_P w0 rb t A d W (hQ.upw u).rs ht
      rw [← hP] at KU
      unfold pcP pcV at KU
      have HU := hide KU
      have HQ := hide hQ
      have hAI : ¬ ((A : Int) < (t.size : Int)) := by omega
      clear KU hQ hP hl hf
      go_wp2_with fail
      go_region
      go_wp2_with (go_at_call 21; refine (HU.out _ (up_drew _)).mono ?_; rintro e w5 ⟨rfl, h5, k5⟩; have g5 := (HQ.out.kr.tr ((Kr.of_up (up_drew _)).tr k5)).old (by omega) HG.out.2.1; obtain ⟨f0, f1, f2, f3, f4, f5, f6, f7, f8, f9, f10⟩ := frozen11 g5; obtain ⟨d0, d1, d2, d3, d4, d5, d6, d7, d8, d9, d10⟩ := cells11 g5; have H5 := hide (And.intro h5 (And.intro k5 g5)); clear h5 k5 g5)
      obtain ⟨h5, k5, g5⟩ := H5.out
      clear c0 c1
      obtain ⟨q1, q2⟩ := sto11 g5 (.int .i64 (P.x : Int)) (.int .i64 (P.y : Int)) (.int .i64 (P.k : Int)) (.int .i64 (P.dk : Int)) (.int .i64 (P.n : Int)) (.bool false) (.slice none 0 0) (.string P.s) (.slice none 0 0) (.slice none 0 0) (.int .i64 (P.er : Int))
      clear f0 f1 f2 f3 f4 f5 f6 f7 f8 f9 f10 d0 d1 d2 d3 d4 d5 d6 d7 d8 d9 d10
      generalize (((((((((((w5.setCell ⟨(w.heap.size + 1), 0, none⟩ (.int .i64 (P.x : Int))).setCell ⟨(w.heap.size + 1), 1, none⟩ (.int .i64 (P.y : Int))).setCell ⟨(w.heap.size + 1), 2, none⟩ (.int .i64 (P.k : Int))).setCell ⟨(w.heap.size + 1), 3, none⟩ (.int .i64 (P.dk : Int))).setCell ⟨(w.heap.size + 1), 4, none⟩ (.int .i64 (P.n : Int))).setCell ⟨(w.heap.size + 1), 5, none⟩ (.bool false)).setCell ⟨(w.heap.size + 1), 6, none⟩ (.slice none 0 0)).setCell ⟨(w.heap.size + 1), 7, none⟩ (.string P.s)).setCell ⟨(w.heap.size + 1), 8, none⟩ (.slice none 0 0)).setCell ⟨(w.heap.size + 1), 9, none⟩ (.slice none 0 0)).setCell ⟨(w.heap.size + 1), 10, none⟩ (.int .i64 (P.er : Int))) = W6 at *
      obtain ⟨d0, d1, d2, d3, d4, d5, d6, d7, d8, d9, d10⟩ := cells11 q1
      refine bodyPost_ret (by simp [results, Tryd.results24, go_sem, d0, d1, d2, d3, d4, d5, d6, d7, d8, d9, d10]; rfl) rfl ?_
      exact ⟨by simp , ⟨q2.up h5.up (by omega), h5.ge, q2.old (by omega) h5.cs⟩, Kr.join HG.out.2.2.1 (HQ.out.kr.tr ((Kr.of_up (up_drew _)).tr k5)) q2 (by omega)⟩
    | c :: l =>
      rw [hl] at hP
      simp only [] at hP
      obtain ⟨hh, hx, hzz⟩ := byte_at t A c l hl
      have hAI : (A : Int) < (t.size : Int) := by omega
      by_cases b1 : c = 34
      · rw [if_pos b1] at hP
        subst b1
        have z1 := frozen_of_row _ rb 1 _ _ hQ.rs.cs
        have HQ := hide hQ
        have HP2 := hide hP
        clear hP hl hQ hf
        go_wp2_with fail
        go_region
        go_wp2_with fail
        go_region
        go_wp2_with fail
        have h8 : QS w0 W2 rb t (A + 1) d (.slice ao S.length cap) S (wr.setCell ⟨rb, 1, none⟩ (.int .i64 ((A : Int) + 1))) := by
          have h7 := HQ.out
          have b7 := heap_setCell_same _ rb 1 _ _ (.int .i64 ((A : Int) + 1)) h7.rs.cs
          have k7 : Kr rb wr (wr.setCell ⟨rb, 1, none⟩ (.int .i64 ((A : Int) + 1))) := (Kr.refl rb _).setCell _ _
          exact h7.more ⟨k7.up h7.rs.up h7.rs.ge, h7.rs.ge, by rw [b7]; simp⟩ k7
        clear c0 c1 z1 HQ
        generalize wr.setCell ⟨rb, 1, none⟩ (.int .i64 ((A : Int) + 1)) = W8 at *
        have n1 : w.heap.size ≠ rb := Nat.ne_of_gt hlt
        have n2 : w.heap.size + 1 ≠ rb := by omega
        have hW2 : w.heap.size + 1 < W2.heap.size := (Array.getElem?_eq_some_iff.1 HG.out.2.1).1
        have KF : ∀ W W', Up W8 W → Kr (w.heap.size + 1) W W' → W'.cell? ⟨w.heap.size, 0, none⟩ = some (.int .i64 (O.x : Int)) ∧ W'.cell? ⟨rb, 1, none⟩ = some (.int .i64 ((A : Int) + 1)) ∧ (convert 68 9 (.slice ao S.length cap)).run Tryd.prog W' = .ok (.string ⟨S.toArray⟩) W' := fun W W' u k => by
          have hW := h8.upw u
          obtain ⟨d0, -⟩ := cells11 (k.old (by omega) (hW.kr.old n1 HG.out.1))
          have c1 := cell_of_row _ rb 1 _ _ _ (k.old (by omega) hW.rs.cs)
          exact ⟨d0, by rw [c1]; simp, hW.conv_kr k hW2⟩
        have HF := hide KF
        have H8 := hide h8
        have KM := fun (W : World) => made_any (O.x : Int) ((A : Int) + 1) 4 0 false ⟨S.toArray⟩ none none none 0 0 0 0 0 0 W
        unfold pcV at KM
        have HM := hide KM
        clear KM KF h8
        obtain ⟨k0, k1, k2⟩ := HF.out W8.drew.drew.drew _ (((up_drew _).tr (up_drew _)).tr (up_drew _)) (Kr.refl _ _)
        go_region_held3 (fun w' => w'.cell? ⟨w.heap.size, 0, none⟩ = some (.int .i64 (O.x : Int)) ∧ w'.cell? ⟨rb, 1, none⟩ = some (.int .i64 ((A : Int) + 1)) ∧ (convert 68 9 (.slice ao S.length cap)).run Tryd.prog w' = .ok (.string ⟨S.toArray⟩) w') (first | (refine ⟨?_, ?_, ?_⟩ <;> with_reducible assumption) | exact HF.out _ _ HU5.out (sto11 HG5.out _ _ _ _ _ _ _ _ _ _ _).2)
          (first
            | (go_at_call 35; refine (HM.out _).mono ?_; rintro e w5 ⟨rfl, u5⟩; have U5 := (((up_drew W8).tr (up_drew _)).tr (up_drew _)).tr u5; obtain ⟨k0, k1, k2⟩ := HF.out w5 _ U5 (Kr.refl _ _); have g5 := (H8.out.upw U5).kr.old n2 HG.out.2.1; obtain ⟨f0, f1, f2, f3, f4, f5, f6, f7, f8, f9, f10⟩ := frozen11 g5; obtain ⟨d0, d1, d2, d3, d4, d5, d6, d7, d8, d9, d10⟩ := cells11 g5; have HU5 := hide U5; have HG5 := hide g5; clear u5 U5 g5))
        go_wp2_with fail
        obtain ⟨q1, q2⟩ := sto11 HG5.out (.int .i64 (O.x : Int)) (.int .i64 ((A : Int) + 1)) (.int .i64 10) (.int .i64 4) (.int .i64 0) (.bool false) (.slice none 0 0) (.string ⟨S.toArray⟩) (.slice none 0 0) (.slice none 0 0) (.int .i64 0)
        clear f0 f1 f2 f3 f4 f5 f6 f7 f8 f9 f10 d0 d1 d2 d3 d4 d5 d6 d7 d8 d9 d10 k0 k1 k2
        generalize (((((((((((w5.setCell ⟨(w.heap.size + 1), 0, none⟩ (.int .i64 (O.x : Int))).setCell ⟨(w.heap.size + 1), 1, none⟩ (.int .i64 ((A : Int) + 1))).setCell ⟨(w.heap.size + 1), 2, none⟩ (.int .i64 10)).setCell ⟨(w.heap.size + 1), 3, none⟩ (.int .i64 4)).setCell ⟨(w.heap.size + 1), 4, none⟩ (.int .i64 0)).setCell ⟨(w.heap.size + 1), 5, none⟩ (.bool false)).setCell ⟨(w.heap.size + 1), 6, none⟩ (.slice none 0 0)).setCell ⟨(w.heap.size + 1), 7, none⟩ (.string ⟨S.toArray⟩)).setCell ⟨(w.heap.size + 1), 8, none⟩ (.slice none 0 0)).setCell ⟨(w.heap.size + 1), 9, none⟩ (.slice none 0 0)).setCell ⟨(w.heap.size + 1), 10, none⟩ (.int .i64 0)) = W6 at *
        obtain ⟨d0, d1, d2, d3, d4, d5, d6, d7, d8, d9, d10⟩ := cells11 q1
        refine bodyPost_ret (by simp [results, Tryd.results24, go_sem, d0, d1, d2, d3, d4, d5, d6, d7, d8, d9, d10]; rfl) rfl ?_
        have h5 := H8.out.upw HU5.out
        have eP := HP2.out
        rw [eP]
        refine ⟨by simp , ⟨q2.up h5.rs.up (by omega), h5.rs.ge, q2.old (by omega) h5.rs.cs⟩, Kr.join HG.out.2.2.1 h5.kr q2 (by omega)⟩
      rw [if_neg b1] at hP
      by_cases b2 : c = 92
      · rw [if_pos b2] at hP
        subst b2
        have hok := escP_ok t.size A (92 :: l)
        have KE := fun (W : World) (u : Up wr W) => escape_P w0 rb t A d W (hQ.upw u).rs ht (by omega)
        rw [hl] at KE
        unfold escOK at hok
        generalize escP t.size A (92 :: l) = E at *
        simp only [List.length_cons] at hok
        unfold pcP pcV at KE
        have HE := hide KE
        have HQ := hide hQ
        have HP2 := hide hP
        rcases hok with ⟨ek, ea⟩ | ⟨ek, ea1, ea2, en, edk, eer, es⟩
        · have HK := hide (And.intro ek ea)
          have ekI : (E.k : Int) = 11 := by omega
          clear KE hP hl hf ek ea hQ
          go_wp2_with fail
          go_region
          go_wp2_with fail
          go_region
          go_wp2_with (go_at_call 36; refine (HE.out _ ((up_drew _).tr (up_drew _))).mono ?_; rintro e w2 ⟨rfl, h2, k2⟩; have H2 := hide (And.intro h2 k2); have u5 := up_alloc w2 (.cells #[.int .i64 (E.x : Int), .int .i64 (E.y : Int), .int .i64 11, .int .i64 (E.dk : Int), .int .i64 (E.n : Int), .bool false, .slice none 0 0, .string E.s, .slice none 0 0, .slice none 0 0, .int .i64 (E.er : Int)] 50); have g5 := u5.old ((HQ.out.kr.tr ((Kr.of_up ((up_drew _).tr (up_drew _))).tr k2)).old (by omega) HG.out.2.1); obtain ⟨f0, f1, f2, f3, f4, f5, f6, f7, f8, f9, f10⟩ := frozen11 g5; obtain ⟨d0, d1, d2, d3, d4, d5, d6, d7, d8, d9, d10⟩ := cells11 g5; have H5 := hide (And.intro u5 g5); clear h2 k2 u5 g5)
          obtain ⟨h2, k2⟩ := H2.out
          obtain ⟨u5, g5⟩ := H5.out
          rw [if_pos HK.out.1] at HP2
          have eP := HP2.out
          clear c0 c1
          have h5 : RS w0 rb t E.a d (w2.alloc (.cells #[.int .i64 (E.x : Int), .int .i64 (E.y : Int), .int .i64 11, .int .i64 (E.dk : Int), .int .i64 (E.n : Int), .bool false, .slice none 0 0, .string E.s, .slice none 0 0, .slice none 0 0, .int .i64 (E.er : Int)] 50)) := h2.more5 u5
          have k5 : Kr rb wr (w2.alloc (.cells #[.int .i64 (E.x : Int), .int .i64 (E.y : Int), .int .i64 11, .int .i64 (E.dk : Int), .int .i64 (E.n : Int), .bool false, .slice none 0 0, .string E.s, .slice none 0 0, .slice none 0 0, .int .i64 (E.er : Int)] 50)) := ((Kr.of_up ((up_drew _).tr (up_drew _))).tr k2).tr (Kr.of_up u5)
          obtain ⟨q1, q2⟩ := sto11 g5 (.int .i64 (E.x : Int)) (.int .i64 (E.y : Int)) (.int .i64 11) (.int .i64 (E.dk : Int)) (.int .i64 (E.n : Int)) (.bool false) (.slice none 0 0) (.string E.s) (.slice none 0 0) (.slice none 0 0) (.int .i64 (E.er : Int))
          clear f0 f1 f2 f3 f4 f5 f6 f7 f8 f9 f10 d0 d1 d2 d3 d4 d5 d6 d7 d8 d9 d10
          generalize w2.alloc (.cells #[.int .i64 (E.x : Int), .int .i64 (E.y : Int), .int .i64 11, .int .i64 (E.dk : Int), .int .i64 (E.n : Int), .bool false, .slice none 0 0, .string E.s, .slice none 0 0, .slice none 0 0, .int .i64 (E.er : Int)] 50) = W5 at *
          generalize (((((((((((W5.setCell ⟨(w.heap.size + 1), 0, none⟩ (.int .i64 (E.x : Int))).setCell ⟨(w.heap.size + 1), 1, none⟩ (.int .i64 (E.y : Int))).setCell ⟨(w.heap.size + 1), 2, none⟩ (.int .i64 11)).setCell ⟨(w.heap.size + 1), 3, none⟩ (.int .i64 (E.dk : Int))).setCell ⟨(w.heap.size + 1), 4, none⟩ (.int .i64 (E.n : Int))).setCell ⟨(w.heap.size + 1), 5, none⟩ (.bool false)).setCell ⟨(w.heap.size + 1), 6, none⟩ (.slice none 0 0)).setCell ⟨(w.heap.size + 1), 7, none⟩ (.string E.s)).setCell ⟨(w.heap.size + 1), 8, none⟩ (.slice none 0 0)).setCell ⟨(w.heap.size + 1), 9, none⟩ (.slice none 0 0)).setCell ⟨(w.heap.size + 1), 10, none⟩ (.int .i64 (E.er : Int))) = W6 at *
          obtain ⟨d0, d1, d2, d3, d4, d5, d6, d7, d8, d9, d10⟩ := cells11 q1
          refine bodyPost_ret (by simp [results, Tryd.results24, go_sem, d0, d1, d2, d3, d4, d5, d6, d7, d8, d9, d10]; rfl) rfl ?_
          rw [eP]; exact ⟨by simp [HK.out.1], ⟨q2.up h5.up (by omega), h5.ge, q2.old (by omega) h5.cs⟩, Kr.join HG.out.2.2.1 (HQ.out.kr.tr k5) q2 (by omega)⟩
        · have ekI : ¬ ((E.k : Int) = 11) := by omega
          have ekN : ¬ (E.k = 11) := by omega
          have enI : (E.n : Int) < 256 := by omega
          have HK := hide (And.intro ea1 (And.intro ea2 ekN))
          clear KE hP hl hf ek ea1 ea2 ekN hQ
          go_wp2_with fail
          go_region
          go_wp2_with fail
          go_region
          go_wp2_with (first
            | (go_at_call 36; refine (HE.out _ ((up_drew _).tr (up_drew _))).mono ?_; rintro e w2 ⟨rfl, h2, k2⟩; have H2 := hide ((HQ.out.upw ((up_drew _).tr (up_drew _))).more h2 k2); clear h2 k2)
            | (at_builtin; refine qs_app (l := [E.n.toUInt8]) (H2.out.upw (up_alloc _ _)) (by simp [Lib.byteCells]; omega) (by simp) (by simp; omega) rfl _ _ rfl rfl _ _ (by simp) rfl ?_; intro g9 cap9 w9 h9))
          obtain ⟨ea1, ea2, ekN⟩ := HK.out
          rw [if_neg ekN] at HP2
          refine ⟨⟨E.a, f, S ++ [E.n.toUInt8], h9, by omega, by simp; omega, by have := HFF.out; omega, HP2.out⟩, ?_⟩
          rw [h9.rs.at, HAT.out]
          omega
      rw [if_neg b2] at hP
      have n34 : ¬ ((c.toNat : Int) = 34) := not_int (k := 34) (fun e => b1 (UInt8.toNat_inj.1 e))
      have n92 : ¬ ((c.toNat : Int) = 92) := not_int (k := 92) (fun e => b2 (UInt8.toNat_inj.1 e))
      have HQ := hide hQ
      have HP2 := hide hP
      clear hP hl hQ hf b1 b2
      go_wp2_with fail
      go_region
      go_wp2_with fail
      go_region
      go_wp2_with (at_builtin; refine qs_app (l := [c]) (HQ.out.upw ((up_drew _).tr (up_drew _))) (by simp [Lib.byteCells]) (by simp) (by simp; omega) rfl _ _ rfl rfl _ _ (by simp) rfl ?_; intro g9 cap9 w9 h9; have c9 := cell_of_row _ rb 1 _ _ _ h9.rs.cs; rw [show (#[.string t, .int .i64 (A : Int), .int .i64 (d : Int)] : Array Value)[1]? = some (.int .i64 (A : Int)) from rfl] at c9; have z9 := frozen_of_row _ rb 1 _ _ h9.rs.cs; have H9 := hide h9; clear h9)
      have h9 := H9.out
      have b9 := heap_setCell_same w9 rb 1 _ _ (.int .i64 ((A : Int) + 1)) h9.rs.cs
      have k9 : Kr rb w9 (w9.setCell ⟨rb, 1, none⟩ (.int .i64 ((A : Int) + 1))) := (Kr.refl rb w9).setCell _ _
      have q9 : QS w0 W2 rb t (A + 1) d (.slice (some ⟨g9, 0, none⟩) (S.length + 1) cap9) (S ++ [c]) (w9.setCell ⟨rb, 1, none⟩ (.int .i64 ((A : Int) + 1))) := h9.more ⟨k9.up h9.rs.up h9.rs.ge, h9.rs.ge, by rw [b9]; simp⟩ k9
      refine ⟨⟨A + 1, f, S ++ [c], q9, by omega, by simp; omega, by have := HFF.out; omega, HP2.out⟩, ?_⟩
      rw [q9.rs.at, HAT.out]
      omega

end Go.Proofs.YteipogfolnlblaaDoor
