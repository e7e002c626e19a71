/-
  What is proved here: which programs may be written, and pack.Write of any protos that lie there.
-/
import Derived.Test.YtilcigjhogcjkaaPKFit5
import Derived.Test.YtilcigjhogcjkaaPKPg
namespace Go.Proofs.Ytilcigjhogcjkaa
open Go Go.RowKit

set_option maxRecDepth 100000 in
set_option maxHeartbeats 1000000 in
theorem codeFits_any (w0 w : World) (co : Option Addr) (cc : Nat) (l : List (Int × Int × Int)) (hco : CodeL w0 co cc l) (hU : Up w0 w) :
    Calls Try.prog 38 #[.slice co l.length cc] w fun e w' => e = .returned (.bool (l.all goodI)) ∧ Fr (fun _ => False) w w' := by
  have hc1 := hco.1
  have hc2 := hco.2.1
  obtain ⟨r, hr⟩ : ∃ r, r = l.all goodI := ⟨_, rfl⟩
  rw [← hr]
  have HRR := hide hr
  have HCO := hide hco
  have HU := hide hU
  clear hr hco hU
  go_enter Try.func38, Try.ntmps38
  go_wp2
  go_loopw [7] (fun u wr => ∃ i : Nat, u = .int .i64 (i : Int) ∧ i ≤ l.length ∧ (∀ j (hj : j < l.length), j < i → goodI l[j] = true) ∧ Fr (fun _ => False) w wr) (fun u _ => l.length - (intOf u).toNat)
  case atStart => exact ⟨0, rfl, Nat.zero_le _, (fun j _ hj => by omega), Fr.refl _ _⟩
  case round =>
    obtain ⟨i, rfl, hi, hgd, hF⟩ := hrel
    by_cases hil : i < l.length
    · obtain ⟨g, off, ea, d0, d1, d2⟩ : ∃ g off, co = some ⟨g, off, none⟩ ∧ wr.cell? ⟨g, off + i * 3, none⟩ = some (.int .i64 l[i].1) ∧ wr.cell? ⟨g, off + i * 3 + 1, none⟩ = some (.int .i64 l[i].2.1) ∧ wr.cell? ⟨g, off + i * 3 + 2, none⟩ = some (.int .i64 l[i].2.2) := by
        rcases (HCO.out.up (up_new HU.out hF)).2.2 with e | ⟨g, off, ea, hc⟩
        · omega
        · exact ⟨g, off, ea, hc i hil⟩
      subst ea
      have hbad : goodI l[i] = false → r = false := fun e => by rw [HRR.out]; exact all_bad hil e
      have hgood : goodI l[i] = true → ∀ j (hj : j < l.length), j < i + 1 → goodI l[j] = true := fun e j hj hjk => by
        by_cases ej : j = i
        · subst ej; exact e
        · exact hgd j hj (by omega)
      generalize l[i] = x at *
      unfold goodI at hbad hgood
      have HI1 := hide (fun (W : World) => isNumber_any x.1 W)
      have HI2 := hide (fun (W : World) => isSigned_any x.2.1 W)
      have HI3 := hide (fun (W : World) => isSigned_any x.2.2 W)
      generalize isNum x.1 = b1 at *
      generalize half x.2.1 = b2 at *
      generalize half x.2.2 = b3 at *
      have HBD := hide hbad
      have HGD := hide hgood
      have HFR := hide (hF.alloc (.cells #[.int .i64 x.1, .int .i64 x.2.1, .int .i64 x.2.2] 50))
      have hkI : (i : Int) < (l.length : Int) := by omega
      clear hbad hgood hgd hF
      cases b1
      · have HF := hide (HBD.out rfl)
        go_wp2_with (go_at_call 37; refine (HI1.out _).mono ?_; rintro e7 w7 ⟨rfl, rfl⟩)
        go_ret
        exact ⟨by rw [HF.out]; rfl, HFR.out⟩
      · cases b2
        · have HF := hide (HBD.out rfl)
          go_wp2_with (first
            | (go_at_call 37; refine (HI1.out _).mono ?_; rintro e7 w7 ⟨rfl, rfl⟩)
            | (go_at_call_of 52 (Value.int IntKind.i64 x.2.1); refine (HI2.out _).mono ?_; rintro e7 w7 ⟨rfl, rfl⟩))
          go_ret
          exact ⟨by rw [HF.out]; rfl, HFR.out⟩
        · cases b3
          · have HF := hide (HBD.out rfl)
            go_wp2_with (first
              | (go_at_call 37; refine (HI1.out _).mono ?_; rintro e7 w7 ⟨rfl, rfl⟩)
              | (go_at_call_of 52 (Value.int IntKind.i64 x.2.1); refine (HI2.out _).mono ?_; rintro e7 w7 ⟨rfl, rfl⟩)
              | (go_at_call_of 52 (Value.int IntKind.i64 x.2.2); refine (HI3.out _).mono ?_; rintro e7 w7 ⟨rfl, rfl⟩))
            go_ret
            exact ⟨by rw [HF.out]; rfl, HFR.out⟩
          · have HG := hide (HGD.out rfl)
            go_wp2_with (first
              | (go_at_call 37; refine (HI1.out _).mono ?_; rintro e7 w7 ⟨rfl, rfl⟩)
              | (go_at_call_of 52 (Value.int IntKind.i64 x.2.1); refine (HI2.out _).mono ?_; rintro e7 w7 ⟨rfl, rfl⟩)
              | (go_at_call_of 52 (Value.int IntKind.i64 x.2.2); refine (HI3.out _).mono ?_; rintro e7 w7 ⟨rfl, rfl⟩))
            exact ⟨⟨i + 1, by go_num, hil, HG.out, HFR.out⟩, by simp [intOf]; omega⟩
    · have e : i = l.length := by omega
      subst e
      have HT : Hid (r = true) := by
        unfold Hid
        rw [HRR.out, List.all_eq_true]
        intro x hx
        obtain ⟨j, hj, rfl⟩ := List.getElem_of_mem hx
        exact hgd j hj hj
      have HFR := hide hF
      have hil' : ¬ ((l.length : Int) < (l.length : Int)) := by omega
      clear hgd hF hil
      go_wp2
      go_ret
      exact ⟨by rw [HT.out]; rfl, HFR.out⟩

/-- The parts of the constants of the first i protos. -/
def kA {N : Nat} (ps : List (PC N)) (i : Nat) : Nat := ((ps.take i).map fun p => ptsA N p.ks).sum
theorem kA_succ {N : Nat} (ps : List (PC N)) (i : Nat) (hi : i < ps.length) : kA ps (i + 1) = kA ps i + ptsA N ps[i].ks := by
  unfold kA
  rw [List.take_add_one, List.getElem?_eq_getElem hi, List.map_append, List.sum_append]
  simp
theorem kA_le {N : Nat} (ps : List (PC N)) (i : Nat) : kA ps i ≤ kA ps ps.length := by
  unfold kA
  rw [List.take_length]
  have e : ps.map (fun p => ptsA N p.ks) = (ps.take i).map (fun p => ptsA N p.ks) ++ (ps.drop i).map (fun p => ptsA N p.ks) := by rw [← List.map_append, List.take_append_drop]
  rw [e, List.sum_append]
  omega
/-- May a program be written? -/
def mayW {N : Nat} (ps : List (PC N)) : Bool := ps.all goodP && decide (kA ps ps.length ≤ 20000)

end Go.Proofs.Ytilcigjhogcjkaa
