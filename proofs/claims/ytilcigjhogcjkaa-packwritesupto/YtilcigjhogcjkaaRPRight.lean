/-
  What is proved here: tandemref10.Right of any protos that lie there, given right of any datum.
-/
import Derived.Test.YtilcigjhogcjkaaRPFit
import Derived.Test.YtilcigjhogcjkaaPKWr2
import Derived.Test.YtilcigjhogcjkaaPKPg
namespace Go.Proofs.Ytilcigjhogcjkaa
open Go Go.RowKit

/-- How many parts are left. -/
def LAt (w : World) (cb c : Nat) : Prop := w.heap[cb]? = some (.cells #[.int .i64 (c : Int)] 88 (0, 0))
theorem LAt.lt {w : World} {cb c : Nat} (h : LAt w cb c) : cb < w.heap.size := (Array.getElem?_eq_some_iff.1 h).1
def LF (w : World) (cb c s : Nat) (r : Bool) (e : Ending) (w' : World) : Prop := e = .returned (.bool r) ∧ (r = true → LAt w' cb (c - s)) ∧ Fr (fun k => k = cb) w w'
def RTOK (h : Nat) : Prop := ∀ (w0 w : World) (cb c : Nat) (d : Tr h) (c0 c1 c2 c3 c4 c5 c6 : Value) (k : Nat), DatC w0 h d [c0, c1, c2, c3, c4, c5, c6] → Up w0 w → w0.heap.size ≤ cb → LAt w cb c → c ≤ 20000 → 1 ≤ k → k ≤ 101 → (datB h d).length ≤ 900000000 →
  Calls Try.prog 45 #[.pointer (some ⟨cb, 0, none⟩), .agg #[c0, c1, c2, c3, c4, c5, c6], .int .i64 (k : Int)] w fun e w' => LF w cb c (ptsD h d) (goodD h (101 - k) d && decide (ptsD h d ≤ c)) e w'
theorem flat_mem_le {α : Type} (f : α → List Nat) {L : List α} {x : α} (hx : x ∈ L) : (f x).length ≤ (L.flatMap f).length := by
  obtain ⟨a, b, rfl⟩ := List.append_of_mem hx
  simp only [List.flatMap_append, List.flatMap_cons, List.length_append]
  omega
theorem pg_dat_le {N : Nat} {ps : List (PC N)} {p : PC N} (hp : p ∈ ps) {x : Tr N} (hx : x ∈ p.ks) : (datB N x).length ≤ (pgB ps).length := by
  have h1 := flat_mem_le proB hp
  have h2 := flat_mem_le (datB N) hx
  simp only [pgB, proB, List.length_append] at h1 ⊢
  omega
def kK {N : Nat} (l : List (Tr N)) (i : Nat) : Nat := ((l.take i).map (ptsD N)).sum
theorem kK_succ {N : Nat} (l : List (Tr N)) (i : Nat) (hi : i < l.length) : kK l (i + 1) = kK l i + ptsD N l[i] := by
  unfold kK
  rw [List.take_add_one, List.getElem?_eq_getElem hi, List.map_append, List.sum_append]
  simp
theorem kK_le {N : Nat} (l : List (Tr N)) (i : Nat) : kK l i ≤ ptsA N l := by
  unfold kK ptsA
  have : (l.map (ptsD N)).sum = ((l.take i).map (ptsD N)).sum + ((l.drop i).map (ptsD N)).sum := by
    rw [← List.sum_append, ← List.map_append, List.take_append_drop]
  omega
theorem kK_all {N : Nat} (l : List (Tr N)) : kK l l.length = ptsA N l := by
  unfold kK ptsA
  rw [List.take_length]
theorem PBx.frN {w w' : World} {B cb : Nat} {c0 c1 c2 c3 c4 c5 c6 : Value} (h : PBx w B c0 c1 c2 c3 c4 c5 c6) (hf : Fr (fun k => k = cb) w w') (hb : cb < B) : PBx w' B c0 c1 c2 c3 c4 c5 c6 := (hf.block B (Array.getElem?_eq_some_iff.1 h).1 (fun e => by omega)).trans h

set_option maxRecDepth 100000 in
set_option maxHeartbeats 2000000 in
theorem rright_of {N : Nat} (hC : RTOK N) (w : World) (ps : List (PC N)) (v : Value) (hr : RowD w (PCell w) v ps) (hl : (pgB ps).length ≤ 900000000) :
    Calls Try.prog 21 #[v] w fun e w' => e = .returned (.bool (mayW ps)) ∧ Fr (fun _ => False) w w' := by
  obtain ⟨ao, cap, rfl⟩ := hr.shape
  have hIl : ps.length ≤ cap ∧ cap ≤ 9223372036854775807 := by
    obtain ⟨ao', cap', e, h1, h2, -⟩ := hr
    cases e
    exact ⟨h1, h2⟩
  obtain ⟨r, hrr⟩ : ∃ r, r = mayW ps := ⟨_, rfl⟩
  rw [← hrr]
  have HRR := hide hrr
  have HR := hide hr
  have HC := hide hC
  have HDL := hide (fun (p : PC N) (hp : p ∈ ps) (x : Tr N) (hx : x ∈ p.ks) => Nat.le_trans (pg_dat_le hp hx) hl)
  have HCT : Hid (LAt (w.alloc (.cells #[.int .i64 20000] 88)) w.heap.size 20000) := hide (heap_alloc_new w _)
  clear hrr hr hC hl
  go_enter Try.func21, Try.ntmps21
  go_wp2
  go_loopg [4] ps.length (fun kg u wr => ∃ i m : Nat, u = .int .i64 (i : Int) ∧ i ≤ ps.length ∧ kg = ps.length - i ∧ 20000 = m + kA ps i ∧ LAt wr w.heap.size m ∧ (∀ j (hj : j < ps.length), j < i → goodP ps[j] = true) ∧ Fr (fun k => k = w.heap.size) (w.alloc (.cells #[.int .i64 20000] 88)) wr)
  case atStart => exact ⟨0, 20000, rfl, Nat.zero_le _, rfl, by simp [kA], HCT.out, (fun j _ hj => by omega), Fr.refl _ _⟩
  case round =>
    clear HCT
    obtain ⟨i, m, rfl, hi, hkg, hm, hct, hgd, hF⟩ := hrel
    have hup : Up w wr := (fr_box hF).upw'
    by_cases hil : i < ps.length
    · obtain ⟨g, off, rfl, co, cc, ka, kc, na, nc, hd, e0, e1, e2, e3, e4, e5, e6⟩ := proto_cells HR.out hup hil
      have hch := kA_succ ps i hil
      have hcn := kA_le ps (i + 1)
      have hbad : goodP ps[i] = false → r = false := fun e => by
        rw [HRR.out]; unfold mayW; rw [all_bad hil e]; rfl
      have hmany : m < ptsA N ps[i].ks → r = false := fun e => by
        rw [HRR.out]; unfold mayW; rw [decide_eq_false (by omega), Bool.and_false]
      have hgood : goodP ps[i] = true → ∀ j (hj : j < ps.length), j < i + 1 → goodP ps[j] = true := fun e j hj hjk => by
        by_cases ej : j = i
        · subst ej; exact e
        · exact hgd j hj (by omega)
      have HDP := hide (HDL.out ps[i] (List.getElem_mem hil))
      generalize ps[i] = p at *
      obtain ⟨co', cc', ka', kc', na', nc', ecs, hco, hks, hns⟩ := hd
      injection ecs with q0 ecs
      injection ecs with q1 ecs
      injection ecs with q2 ecs
      injection ecs with q3 ecs
      injection ecs with q4 ecs
      injection ecs with q5 ecs
      rw [q4] at e4
      rw [q5] at e5
      injection q4 with qa qb qc
      injection q5 with qd qe qf
      subst qa qc qd qf
      clear ecs q0 q1 q2 q3 qb qe
      have hcw : w.heap.size < wr.heap.size := hct.lt
      have hm20 : m ≤ 20000 := by omega
      have hc1 := hco.1
      have hc2 := hco.2.1
      have hk1 : p.ks.length ≤ kc ∧ kc ≤ 9223372036854775807 := by
        obtain ⟨ao', cap', e, z1, z2, -⟩ := hks
        cases e
        exact ⟨z1, z2⟩
      have HI1 := hide (fun (W : World) => rinN_any p.args W)
      have HI2 := hide (fun (W : World) => rinN_any p.free W)
      have hB0 : PBx (wr.alloc (.cells #[.string p.nm, .int .i64 p.args, .int .i64 p.free, .bool p.rest, .slice co p.code.length cc, .slice ka p.ks.length kc, .slice na p.ns.length nc] 48)) wr.heap.size (.string p.nm) (.int .i64 p.args) (.int .i64 p.free) (.bool p.rest) (.slice co p.code.length cc) (.slice ka p.ks.length kc) (.slice na p.ns.length nc) := heap_alloc_new wr _
      have HB0 := hide hB0
      have HF0 := hide (hF.trans ((Fr.refl (fun _ => False) wr).alloc (.cells #[.string p.nm, .int .i64 p.args, .int .i64 p.free, .bool p.rest, .slice co p.code.length cc, .slice ka p.ks.length kc, .slice na p.ns.length nc] 48)) (fun _ _ e => e.elim))
      have HL0 : Hid (LAt (wr.alloc (.cells #[.string p.nm, .int .i64 p.args, .int .i64 p.free, .bool p.rest, .slice co p.code.length cc, .slice ka p.ks.length kc, .slice na p.ns.length nc] 48)) w.heap.size m) := (heap_alloc_old wr _ (r := w.heap.size) hcw).trans hct
      have hkI : (i : Int) < (ps.length : Int) := by omega
      have HX : Hid (goodP p = (isNum p.args && (isNum p.free && (p.code.all goodI && p.ks.all (goodD N 100))))) := rfl
      have HBD := hide hbad
      have HMN := hide hmany
      have HGD := hide hgood
      have HCO := hide hco
      have HKS := hide hks
      have HKG := hide hkg
      have HCH : Hid (20000 = m + kA ps i ∧ kA ps (i + 1) = kA ps i + ptsA N p.ks) := ⟨hm, hch⟩
      have HU := hide hup
      clear hch hcn hbad hmany hgood hgd hF hct hm hco hks hns hup hB0 hkg
      obtain ⟨b1, hb1⟩ : ∃ x, x = isNum p.args := ⟨_, rfl⟩
      obtain ⟨b2, hb2⟩ : ∃ x, x = isNum p.free := ⟨_, rfl⟩
      rw [← hb1] at HI1 HX
      rw [← hb2] at HI2 HX
      clear hb1 hb2
      cases b1
      · have HF := hide (HBD.out (by rw [HX.out]; simp))
        go_wp2_with (first
          | (go_at_call_of 43 (Value.int IntKind.i64 p.args); refine (HI1.out _).mono ?_; rintro e5 w5 ⟨rfl, rfl⟩))
        go_ret
        exact ⟨by rw [HF.out]; rfl, fr_box HF0.out⟩
      · cases b2
        · have HF := hide (HBD.out (by rw [HX.out]; simp))
          go_wp2_with (first
            | (go_at_call_of 43 (Value.int IntKind.i64 p.args); refine (HI1.out _).mono ?_; rintro e5 w5 ⟨rfl, rfl⟩)
            | (go_at_call_of 43 (Value.int IntKind.i64 p.free); refine (HI2.out _).mono ?_; rintro e6 w6 ⟨rfl, rfl⟩))
          go_ret
          exact ⟨by rw [HF.out]; rfl, fr_box HF0.out⟩
        · go_wp2_with (first
            | (go_at_call_of 43 (Value.int IntKind.i64 p.args); refine (HI1.out _).mono ?_; rintro e5 w5 ⟨rfl, rfl⟩)
            | (go_at_call_of 43 (Value.int IntKind.i64 p.free); refine (HI2.out _).mono ?_; rintro e6 w6 ⟨rfl, rfl⟩))
          clear HI1 HI2 e0 e1 e2 e3 e4 e5 e6
          generalize (wr.alloc (.cells #[.string p.nm, .int .i64 p.args, .int .i64 p.free, .bool p.rest, .slice co p.code.length cc, .slice ka p.ks.length kc, .slice na p.ns.length nc] 48)) = W1 at *
          generalize wr.heap.size = pb at *
          go_loopw [6] (fun u w2 => ∃ i2 : Nat, u = .int .i64 (i2 : Int) ∧ i2 ≤ p.code.length ∧ (∀ j (hj : j < p.code.length), j < i2 → goodI p.code[j] = true) ∧ W1 = w2) (fun u _ => p.code.length - (intOf u).toNat)
          case atStart => exact ⟨0, rfl, Nat.zero_le _, (fun j _ hj => by omega), rfl⟩
          case round =>
            obtain ⟨i2, rfl, hi2, hgi, rfl⟩ := hrel
            have yy4 := HB0.out.k4
            have yy5 := HB0.out.k5
            by_cases hil2 : i2 < p.code.length
            · obtain ⟨g2, off2, ea, d0, d1, d2⟩ : ∃ g off, co = some ⟨g, off, none⟩ ∧ W1.cell? ⟨g, off + i2 * 3, none⟩ = some (.int .i64 p.code[i2].1) ∧ W1.cell? ⟨g, off + i2 * 3 + 1, none⟩ = some (.int .i64 p.code[i2].2.1) ∧ W1.cell? ⟨g, off + i2 * 3 + 2, none⟩ = some (.int .i64 p.code[i2].2.2) := by
                rcases (HCO.out.up (fr_box HF0.out).upw').2.2 with e | ⟨g, off, ea, hc⟩
                · omega
                · exact ⟨g, off, ea, hc i2 hil2⟩
              subst ea
              have hbad2 : goodI p.code[i2] = false → r = false := fun e => HBD.out (by rw [HX.out, all_bad hil2 e]; simp)
              have hgood2 : goodI p.code[i2] = true → ∀ j (hj : j < p.code.length), j < i2 + 1 → goodI p.code[j] = true := fun e j hj hjk => by
                by_cases ej : j = i2
                · subst ej; exact e
                · exact hgi j hj (by omega)
              generalize p.code[i2] = x at *
              unfold goodI at hbad2 hgood2
              have HJ1 := hide (fun (W : World) => rinN_any x.1 W)
              have HJ2 := hide (fun (W : World) => rhalf_any x.2.1 W)
              have HJ3 := hide (fun (W : World) => rhalf_any x.2.2 W)
              generalize isNum x.1 = c1 at *
              generalize half x.2.1 = c2 at *
              generalize half x.2.2 = c3 at *
              have HBD2 := hide hbad2
              have HGD2 := hide hgood2
              have hkI2 : (i2 : Int) < (p.code.length : Int) := by omega
              clear hbad2 hgood2 hgi
              cases c1
              · have HF := hide (HBD2.out rfl)
                go_wp2_with (go_at_call 43; refine (HJ1.out _).mono ?_; rintro e7 w7 ⟨rfl, rfl⟩)
                go_ret
                exact ⟨by rw [HF.out]; rfl, fr_box HF0.out⟩
              · cases c2
                · have HF := hide (HBD2.out rfl)
                  go_wp2_with (first
                    | (go_at_call 43; refine (HJ1.out _).mono ?_; rintro e7 w7 ⟨rfl, rfl⟩)
                    | (go_at_call_of 44 (Value.int IntKind.i64 x.2.1); refine (HJ2.out _).mono ?_; rintro e7 w7 ⟨rfl, rfl⟩))
                  go_ret
                  exact ⟨by rw [HF.out]; rfl, fr_box HF0.out⟩
                · cases c3
                  · have HF := hide (HBD2.out rfl)
                    go_wp2_with (first
                      | (go_at_call 43; refine (HJ1.out _).mono ?_; rintro e7 w7 ⟨rfl, rfl⟩)
                      | (go_at_call_of 44 (Value.int IntKind.i64 x.2.1); refine (HJ2.out _).mono ?_; rintro e7 w7 ⟨rfl, rfl⟩)
                      | (go_at_call_of 44 (Value.int IntKind.i64 x.2.2); refine (HJ3.out _).mono ?_; rintro e7 w7 ⟨rfl, rfl⟩))
                    go_ret
                    exact ⟨by rw [HF.out]; rfl, fr_box HF0.out⟩
                  · have HG := hide (HGD2.out rfl)
                    go_wp2_with (first
                      | (go_at_call 43; refine (HJ1.out _).mono ?_; rintro e7 w7 ⟨rfl, rfl⟩)
                      | (go_at_call_of 44 (Value.int IntKind.i64 x.2.1); refine (HJ2.out _).mono ?_; rintro e7 w7 ⟨rfl, rfl⟩)
                      | (go_at_call_of 44 (Value.int IntKind.i64 x.2.2); refine (HJ3.out _).mono ?_; rintro e7 w7 ⟨rfl, rfl⟩))
                    exact ⟨⟨i2 + 1, by go_num, hil2, HG.out, trivial⟩, by simp [intOf]; omega⟩
            · have e : i2 = p.code.length := by omega
              subst e
              have HCG : Hid (p.code.all goodI = true) := by
                unfold Hid
                rw [List.all_eq_true]
                intro x hx
                obtain ⟨j, hj, rfl⟩ := List.getElem_of_mem hx
                exact hgi j hj hj
              have hil2' : ¬ ((p.code.length : Int) < (p.code.length : Int)) := by omega
              clear hgi hil2
              go_wp2
              clear yy4 yy5
              go_loopw [7] (fun u w2 => ∃ i2 m2 : Nat, u = .int .i64 (i2 : Int) ∧ i2 ≤ p.ks.length ∧ m = m2 + kK p.ks i2 ∧ LAt w2 w.heap.size m2 ∧ PBx w2 pb (.string p.nm) (.int .i64 p.args) (.int .i64 p.free) (.bool p.rest) (.slice co p.code.length cc) (.slice ka p.ks.length kc) (.slice na p.ns.length nc) ∧ (∀ j (hj : j < p.ks.length), j < i2 → goodD N 100 p.ks[j] = true) ∧ Fr (fun k => k = w.heap.size) (w.alloc (.cells #[.int .i64 20000] 88)) w2) (fun u _ => p.ks.length - (intOf u).toNat)
              case atStart => exact ⟨0, m, rfl, Nat.zero_le _, by simp [kK], HL0.out, HB0.out, (fun j _ hj => by omega), HF0.out⟩
              case round =>
                clear HB0 HF0 HL0
                obtain ⟨i2, m2, rfl, hi2, hm2, hL, hP, hgk, hF⟩ := hrel
                have hup : Up w wr := (fr_box hF).upw'
                have yy4 := hP.k4
                have yy5 := hP.k5
                by_cases hil2 : i2 < p.ks.length
                · obtain ⟨g2, off2, rfl, kk, km, kb, um, kt, ui, ur, hdat, ⟨x1, x2, x3, rfl⟩, ⟨z1, z2, z3, rfl⟩, ⟨t1, t2, t3, rfl⟩, e0, e1, e2, e3, e4, e5, e6⟩ := row_cells HKS.out hup hil2
                  have hks := kK_succ p.ks i2 hil2
                  have hkl := kK_le p.ks (i2 + 1)
                  obtain ⟨b4, hb4⟩ : ∃ x, x = (goodD N 100 p.ks[i2] && decide (ptsD N p.ks[i2] ≤ m2)) := ⟨_, rfl⟩
                  have HBD4 : Hid (b4 = false → r = false) := fun e => by
                    cases hx : goodD N 100 p.ks[i2] with
                    | false => exact HBD.out (by rw [HX.out, all_bad hil2 hx]; simp)
                    | true =>
                      rw [hb4, hx, Bool.true_and, decide_eq_false_iff_not] at e
                      exact HMN.out (by omega)
                  have HGD4 : Hid (b4 = true → m = (m2 - ptsD N p.ks[i2]) + kK p.ks (i2 + 1) ∧ ∀ j (hj : j < p.ks.length), j < i2 + 1 → goodD N 100 p.ks[j] = true) := fun e => by
                    rw [hb4, Bool.and_eq_true, decide_eq_true_eq] at e
                    refine ⟨by omega, fun j hj hjk => ?_⟩
                    by_cases ej : j = i2
                    · subst ej; exact e.1
                    · exact hgk j hj (by omega)
                  have HQ := hide (show Calls Try.prog 45 #[.pointer (some ⟨w.heap.size, 0, none⟩), .agg #[.int .i64 kk, .int .i64 km, .bool kb, .slice x1 x2 x3, .string kt, .slice z1 z2 z3, .slice t1 t2 t3], .int .i64 1] wr fun e w' => LF wr w.heap.size m2 (ptsD N p.ks[i2]) b4 e w' by rw [hb4]; exact HC.out w wr w.heap.size m2 p.ks[i2] _ _ _ _ _ _ _ 1 hdat hup (Nat.le_refl _) hL (by omega) (by omega) (by omega) (HDP.out _ (List.getElem_mem hil2)))
                  have HPP := hide hP
                  have HFF := hide hF
                  have hkI2 : (i2 : Int) < (p.ks.length : Int) := by omega
                  clear hks hkl hb4 hm2 hL hP hgk hF hup hdat
                  cases b4
                  · have HF := hide (HBD4.out rfl)
                    go_wp2_with (go_at_call 45; refine HQ.out.mono ?_; rintro e8 w8 ⟨rfl, hc8, F8⟩; have HF8 := hide (HFF.out.trans F8 (fun _ _ e => e)); clear F8 hc8)
                    go_ret
                    exact ⟨by rw [HF.out]; rfl, fr_box HF8.out⟩
                  · have HG := hide (HGD4.out rfl)
                    go_wp2_with (go_at_call 45; refine HQ.out.mono ?_; rintro e8 w8 ⟨rfl, hc8, F8⟩; have HF8 := hide (HFF.out.trans F8 (fun _ _ e => e)); have HC8 := hide hc8; have HP8 := hide (HPP.out.frN F8 hcw); clear F8 hc8)
                    exact ⟨⟨i2 + 1, _, by go_num, hil2, HG.out.1, HC8.out trivial, HP8.out, HG.out.2, HF8.out⟩, by simp [intOf]; omega⟩
                · have e : i2 = p.ks.length := by omega
                  subst e
                  rw [kK_all] at hm2
                  have HKA : Hid (p.ks.all (goodD N 100) = true) := by
                    unfold Hid
                    rw [List.all_eq_true]
                    intro x hx
                    obtain ⟨j, hj, rfl⟩ := List.getElem_of_mem hx
                    exact hgk j hj hj
                  have HM2 := hide hm2
                  have HLL := hide hL
                  have HFF := hide hF
                  have hil2' : ¬ ((p.ks.length : Int) < (p.ks.length : Int)) := by omega
                  clear hm2 hL hP hgk hF hup hil2
                  go_wp2
                  go_roundg (ps.length - (i + 1))
                  case measure => have := HKG.out; omega
                  case rel => exact ⟨i + 1, m2, by go_num, hil, rfl, by have := HCH.out; have := HM2.out; omega, HLL.out, HGD.out (by rw [HX.out, HCG.out, HKA.out]; rfl), HFF.out⟩
    · have e : i = ps.length := by omega
      subst e
      have HT : Hid (r = true) := by
        unfold Hid
        rw [HRR.out]
        unfold mayW
        rw [Bool.and_eq_true, decide_eq_true_eq]
        refine ⟨?_, by omega⟩
        rw [List.all_eq_true]
        intro x hx
        obtain ⟨j, hj, rfl⟩ := List.getElem_of_mem hx
        exact hgd j hj hj
      have HFE := hide hF
      have hil' : ¬ ((ps.length : Int) < (ps.length : Int)) := by omega
      clear hgd hF hil hct hup
      go_wp2
      go_ret
      exact ⟨by rw [HT.out]; rfl, fr_box HFE.out⟩

end Go.Proofs.Ytilcigjhogcjkaa
