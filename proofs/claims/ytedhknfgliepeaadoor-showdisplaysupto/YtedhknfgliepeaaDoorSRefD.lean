/-
  What is proved here: tandemref06's many, given its text of one datum.
-/
import Derived.Test.YtedhknfgliepeaaDoorSRefC
import Derived.Test.YtedhknfgliepeaaDoorSLists
namespace Go.Proofs.YtedhknfgliepeaaDoor
open Go Go.RowKit

/-- What tandemref06.text does with one datum. -/
def RTextOK (h : Nat) : Prop := ∀ (sh : Bool) (d : Tr h) (c0 c1 c2 c3 c4 c5 c6 : Value) (w : World), DatC w h d [c0, c1, c2, c3, c4, c5, c6] → bk h d ≤ 10000000 →
  Calls Tryd.prog 15 #[.agg #[c0, c1, c2, c3, c4, c5, c6], .bool sh] w fun e w' => e = .returned (.string ⟨(wr h sh d).toArray⟩) ∧ Up w w'
def RManyOK (h : Nat) : Prop := ∀ (sh : Bool) (I : List (Tr h)) (v : Value) (w : World), RowD w (DatC w h) v I → (I.map (bk h)).sum ≤ 10000000 →
  Calls Tryd.prog 22 #[v, .bool sh] w fun e w' => e = .returned (.string ⟨(its (wr h sh) [] I).toArray⟩) ∧ Up w w'

theorem mem_sum {α : Type} {m : α → Nat} {l : List α} {i : Nat} (hi : i < l.length) : m l[i] ≤ (l.map m).sum := by
  obtain ⟨l1, l2, e⟩ := List.append_of_mem (List.getElem_mem hi)
  have : (l.map m).sum = (l1.map m).sum + (m l[i] + (l2.map m).sum) := by
    conv => lhs; rw [e]
    simp
  omega

set_option maxHeartbeats 8000000 in
set_option maxRecDepth 100000 in
theorem many_of {h : Nat} (hT : RTextOK h) : RManyOK h := by
  intro sh I v w hr hs
  obtain ⟨ao, cap, rfl⟩ := hr.shape
  have hIl : I.length ≤ 10000000 := Nat.le_trans (sum_ge (m := bk h) (l := I) (fun a _ => bk_one h a)) hs
  have hlen := fun k => its_len hr sh k
  have KX := fun (W : World) (i : Nat) (hi : i < I.length) (d0 d1 d2 d3 d4 d5 d6 : Value) (hd : DatC W h I[i] [d0, d1, d2, d3, d4, d5, d6]) => hT sh I[i] d0 d1 d2 d3 d4 d5 d6 W hd (Nat.le_trans (mem_sum hi) hs)
  generalize hF : wr h sh = F at *
  clear hF
  have HR := hide hr
  have HX := hide KX
  have HLN := hide (And.intro hlen hs)
  have R0 : Hid (RT w (.slice none 0 0) [] w) := hide ⟨Up.refl w, World.ownsRow_nil _ _ _ _⟩
  clear hr KX hlen hs hT
  go_enter Tryd.func22, Tryd.ntmps22
  go_wp2
  go_loopw [5, 6] (fun a5 a6 w' => ∃ k : Nat, k ≤ I.length ∧ a6 = .int .i64 (k : Int) ∧ RT w a5 (its F [] (I.take k)) w') (fun _ a6 _ => I.length - (intOf a6).toNat)
  case atStart => exact ⟨0, Nat.zero_le _, rfl, by simpa [its] using R0.out⟩
  case round =>
    obtain ⟨k, hk, rfl, hR⟩ := hrel
    obtain ⟨aoV, capV, rfl⟩ := hR.shape
    by_cases hlt : k < I.length
    · obtain ⟨b, off, rfl, ik, im, ib, jum, it, jui, jur, hdat, ⟨p1, p2, p3, rfl⟩, ⟨q1, q2, q3, rfl⟩, ⟨s1, s2, s3, rfl⟩, e0, e1, e2, e3, e4, e5, e6⟩ := row_cells HR.out (Up.refl w) hlt
      have hbw : b < w.heap.size := World.block_lt_of_cell? w _ e0
      have hcu : ∀ W, Up w W → W.cell? ⟨b, off + k * 7, none⟩ = some (.int .i64 ik) ∧ W.cell? ⟨b, off + k * 7 + 1, none⟩ = some (.int .i64 im) ∧ W.cell? ⟨b, off + k * 7 + 2, none⟩ = some (.bool ib) ∧ W.cell? ⟨b, off + k * 7 + 3, none⟩ = some (.slice p1 p2 p3) ∧ W.cell? ⟨b, off + k * 7 + 4, none⟩ = some (.string it) ∧ W.cell? ⟨b, off + k * 7 + 5, none⟩ = some (.slice q1 q2 q3) ∧ W.cell? ⟨b, off + k * 7 + 6, none⟩ = some (.slice s1 s2 s3) := fun W u => ⟨(u.cell (p := ⟨b, off + k * 7, none⟩) hbw).trans e0, (u.cell (p := ⟨b, off + k * 7 + 1, none⟩) hbw).trans e1, (u.cell (p := ⟨b, off + k * 7 + 2, none⟩) hbw).trans e2, (u.cell (p := ⟨b, off + k * 7 + 3, none⟩) hbw).trans e3, (u.cell (p := ⟨b, off + k * 7 + 4, none⟩) hbw).trans e4, (u.cell (p := ⟨b, off + k * 7 + 5, none⟩) hbw).trans e5, (u.cell (p := ⟨b, off + k * 7 + 6, none⟩) hbw).trans e6⟩
      clear e0 e1 e2 e3 e4 e5 e6
      obtain ⟨e0, e1, e2, e3, e4, e5, e6⟩ := hcu wr hR.up
      have HCU := hide hcu
      clear hcu
      have hl1 := HLN.out.1 k
      have hl2 := HLN.out.1 (k + 1)
      have hbb := HLN.out.2
      have eT := its_take F I hlt
      have hkI : (k : Int) < (I.length : Int) := by omega
      obtain ⟨S, hS⟩ : ∃ S, S = its F [] (I.take k) := ⟨_, rfl⟩
      obtain ⟨T, hTT⟩ : ∃ T, T = F I[k] := ⟨_, rfl⟩
      rw [← hS, ← hTT] at eT
      rw [← hS] at hl1 hR ⊢
      have K1 := fun (W : World) (u : Up w W) => HX.out W k hlt _ _ _ _ _ _ _ (hdat.up u)
      rw [← hTT] at K1
      have l1 : S.length ≤ 600000000 := by omega
      have l2 : T.length ≤ 1000000000 - S.length - 1 := by rw [eT] at hl2; simp at hl2; omega
      have zT : (⟨T.toArray⟩ : ByteArray).size = T.length := by simp [ByteArray.size]
      have HR1 := hide hR
      have HK1 := hide K1
      have HE := hide eT
      clear K1 hdat hS hTT hl1 hl2 hbb eT
      by_cases hk0 : k = 0
      · subst hk0
        simp only [Nat.zero_mul, Nat.add_zero] at e0 e1 e2 e3 e4 e5 e6
        go_wp2_with (first
          | (go_at_call 15; refine (HK1.out _ HR1.out.up).mono ?_; rintro e w2 ⟨rfl, u2⟩; have H2 := hide (HR1.out.more u2); clear u2)
          | (at_builtin; refine rt_appS H2.out (by rw [zT]; omega) rfl _ _ rfl rfl rfl ?_; intro v3 w3 h3; obtain ⟨ao3, cap3, rfl⟩ := h3.shape))
        refine ⟨⟨0 + 1, by omega, by go_num, by rw [HE.out]; simpa using h3⟩, ?_⟩
        simp [intOf]
        omega
      · have hk1 : 0 < (k : Int) := by omega
        go_wp2_with (first
          | (at_builtin; refine rt_app (l := [32]) HR1.out (by simp [Lib.byteCells]) (by simp) (by simp; omega) rfl _ _ rfl rfl _ rfl ?_; intro g1 cap1 w1 h1; clear e0 e1 e2 e3 e4 e5 e6; obtain ⟨e0, e1, e2, e3, e4, e5, e6⟩ := HCU.out _ h1.up; have H1 := hide h1; clear h1)
          | (go_at_call 15; refine (HK1.out _ H1.out.up).mono ?_; rintro e w2 ⟨rfl, u2⟩; have H2 := hide (H1.out.more u2); clear u2)
          | (at_builtin; refine rt_appS H2.out (by rw [zT]; simp; omega) rfl _ _ rfl rfl rfl ?_; intro v3 w3 h3; obtain ⟨ao3, cap3, rfl⟩ := h3.shape))
        refine ⟨⟨k + 1, by omega, by go_num, by rw [HE.out, if_neg hk0]; simpa using h3⟩, ?_⟩
        simp [intOf]
        omega
    · have hkK : k = I.length := by omega
      subst hkK
      rw [List.take_length] at hR ⊢
      have hkI : ¬ ((I.length : Int) < (I.length : Int)) := by omega
      obtain ⟨S, hS⟩ : ∃ S, S = its F [] I := ⟨_, rfl⟩
      rw [← hS] at hR ⊢
      have kc := hR.conv
      have HU := hide hR.up
      have HSS := hide hS
      clear hS
      clear hR
      go_wp2
      go_ret
      exact ⟨by rw [HSS.out]; rfl, HU.out⟩

end Go.Proofs.YtedhknfgliepeaaDoor
