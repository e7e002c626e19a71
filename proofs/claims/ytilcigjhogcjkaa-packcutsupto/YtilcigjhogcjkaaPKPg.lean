/-
  What is proved here: a writer's program (package pack): just a program's bytes.
-/
import Derived.Test.YtilcigjhogcjkaaPKPrW
namespace Go.Proofs.Ytilcigjhogcjkaa
open Go Go.RowKit

def pgB {N : Nat} (ps : List (PC N)) : List Nat := ([84, 65, 78, 68] ++ numB ps.length) ++ ps.flatMap proB
/-- The seven cells of a proto of a row that lay there. -/
theorem proto_cells {N : Nat} {w0 W : World} {ps : List (PC N)} {ao : Option Addr} {n cap : Nat} (hr : RowD w0 (PCell w0) (.slice ao n cap) ps) (u : Up w0 W) {i : Nat} (hi : i < ps.length) :
    ∃ b off, ao = some ⟨b, off, none⟩ ∧ ∃ co cc ka kc na nc, PCell w0 ps[i] [.string ps[i].nm, .int .i64 ps[i].args, .int .i64 ps[i].free, .bool ps[i].rest, .slice co ps[i].code.length cc, .slice ka ps[i].ks.length kc, .slice na ps[i].ns.length nc] ∧
      W.cell? ⟨b, off + i * 7, none⟩ = some (.string ps[i].nm) ∧ W.cell? ⟨b, off + i * 7 + 1, none⟩ = some (.int .i64 ps[i].args) ∧ W.cell? ⟨b, off + i * 7 + 2, none⟩ = some (.int .i64 ps[i].free) ∧ W.cell? ⟨b, off + i * 7 + 3, none⟩ = some (.bool ps[i].rest) ∧ W.cell? ⟨b, off + i * 7 + 4, none⟩ = some (.slice co ps[i].code.length cc) ∧ W.cell? ⟨b, off + i * 7 + 5, none⟩ = some (.slice ka ps[i].ks.length kc) ∧ W.cell? ⟨b, off + i * 7 + 6, none⟩ = some (.slice na ps[i].ns.length nc) := by
  obtain ⟨-, b, off, rfl, cs, k1, k2, k3⟩ := hr.get hi
  obtain ⟨co, cc, ka, kc, na, nc, e, h1, h2, h3⟩ := k3
  subst e
  have hb : b < w0.heap.size := World.block_lt_of_cell? w0 _ (k2 0 (by decide))
  have key : ∀ j, j < 7 → W.cell? ⟨b, off + i * 7 + j, none⟩ = _ := fun j hj => (u.cell (p := ⟨b, off + i * 7 + j, none⟩) hb).trans (k2 j hj)
  exact ⟨b, off, rfl, co, cc, ka, kc, na, nc, ⟨co, cc, ka, kc, na, nc, rfl, h1, h2, h3⟩, key 0 (by decide), key 1 (by decide), key 2 (by decide), key 3 (by decide), key 4 (by decide), key 5 (by decide), key 6 (by decide)⟩

set_option maxRecDepth 100000 in
set_option maxHeartbeats 2000000 in
theorem wprogram_any {N : Nat} (w0 w : World) (wb : Nat) (ps : List (PC N)) (v : Value) (hr : RowD w0 (PCell w0) v ps) (hU : Up w0 w) (hW : WO w0.heap.size w wb []) (hg : ∀ p, p ∈ ps → goodP p = true) (hl : (pgB ps).length ≤ 1000000000) :
    Calls Try.prog 19 #[.pointer (some ⟨wb, 0, none⟩), v] w fun e w' => WEnd w0.heap.size w wb (pgB ps) e w' := by
  obtain ⟨iU, hiU, zU0, zU1, zU2⟩ := info_parts infoU8
  obtain ⟨ao, cap, rfl⟩ := hr.shape
  have hIl : ps.length ≤ cap ∧ cap ≤ 9223372036854775807 := by
    obtain ⟨ao', cap', e, h1, h2, -⟩ := hr
    cases e
    exact ⟨h1, h2⟩
  obtain ⟨T, hT⟩ : ∃ T, T = pgB ps := ⟨_, rfl⟩
  rw [← hT] at hl ⊢
  obtain ⟨q1, hq1⟩ : ∃ q, q = [84, 65, 78, 68] ++ numB ps.length := ⟨_, rfl⟩
  have hT2 : T = q1 ++ ps.flatMap proB := by rw [hT, hq1]; rfl
  have l1 : q1.length + (ps.flatMap proB).length ≤ 1000000000 := by rw [hT2, List.length_append] at hl; exact hl
  have HK1 := hide (fun (W : World) (hw : WO w0.heap.size W wb [84, 65, 78, 68]) (hu : Up w0 W) => show Calls Try.prog 40 #[.pointer (some ⟨wb, 0, none⟩), .int .i64 (ps.length : Int)] W fun e w' => WEnd w0.heap.size W wb q1 e w' by rw [hq1]; exact number_any w0.heap.size W wb [84, 65, 78, 68] ps.length hw (by omega) (by rw [← hq1]; omega) hu.size)
  have HK3 := hide (fun (W : World) (i : Nat) (hi : i < ps.length) (c0 c1 c2 c3 c4 c5 c6 : Value) (hd : PCell w0 ps[i] [c0, c1, c2, c3, c4, c5, c6]) (hu : Up w0 W) (hw : WO w0.heap.size W wb (q1 ++ (ps.take i).flatMap proB)) => show Calls Try.prog 41 #[.pointer (some ⟨wb, 0, none⟩), .agg #[c0, c1, c2, c3, c4, c5, c6]] W fun e w' => WEnd w0.heap.size W wb (q1 ++ (ps.take (i + 1)).flatMap proB) e w' by
    have h2 := flat_take_le proB ps (i + 1)
    rw [flat_take_succ proB ps i hi] at h2
    have := wproto_any w0 W wb (q1 ++ (ps.take i).flatMap proB) ps[i] c0 c1 c2 c3 c4 c5 c6 hd hu hw (hg _ (List.getElem_mem hi)) (by simp only [List.length_append] at h2 ⊢; omega)
    rw [List.append_assoc, ← flat_take_succ proB ps i hi] at this
    exact this)
  obtain ⟨v, hv⟩ := hW
  obtain ⟨aw, cw, ev⟩ := hv.shape
  have c0 := hv.cell
  have z0 := hv.free
  have hown := hv.own
  subst ev
  have hBs := hU.size
  have HV := hide hv
  have HT2 := hide hT2
  have HU := hide hU
  have HR := hide hr
  clear hT hT2 hl l1 hq1 hU hr hg hv
  go_enter Try.func19, Try.ntmps19
  go_wp2_with (first
    | (at_builtin; refine Lib.wpList_append_own_string _ rfl _ _ 23 9 rfl w0.heap.size 5 iU Try.underlying23 Try.underlying9 hiU zU0 zU1 zU2 _ ([] : List Nat).length _ rfl hown ⟨#[84, 65, 78, 68]⟩ rfl (by decide) (by decide) hBs ?_; intro v9 w9 hown9 hgrow9 _; obtain ⟨ao9, cap9, e9⟩ := row_shape hown9; subst e9; have y9 := (HV.out.at9 (Fr.refl _ _) hgrow9).1; have z9 := (HV.out.at9 (Fr.refl _ _) hgrow9).2; have HP9 := hide (HV.out.putV (x := [84, 65, 78, 68]) (Fr.refl _ _) rfl hown9 hgrow9); clear hown9 hgrow9)
    | (go_at_call 40; refine (HK1.out _ ⟨_, HP9.out.1⟩ (HP9.out.2.up HU.out)).mono ?_; rintro e1 w1 ⟨rfl, hw1, F1⟩; have HW1 := hide hw1; have HF1 := hide (HP9.out.2.trans F1); clear hw1 F1))
  go_loopw [20] (fun u wr => ∃ i : Nat, u = .int .i64 (i : Int) ∧ i ≤ ps.length ∧ WO w0.heap.size wr wb (q1 ++ (ps.take i).flatMap proB) ∧ FW w0.heap.size w wr) (fun u _ => ps.length - (intOf u).toNat)
  case atStart => exact ⟨0, rfl, Nat.zero_le _, by simpa using HW1.out, HF1.out⟩
  case round =>
    clear HW1 HF1 HK1
    obtain ⟨i, rfl, hi, hW, hF⟩ := hrel
    by_cases hil : i < ps.length
    · obtain ⟨b, off, rfl, co, cc, ka, kc, na, nc, hd, e0, e1, e2, e3, e4, e5, e6⟩ := proto_cells HR.out (hF.up HU.out) hil
      have HK := hide (fun (W : World) (hf : Fr (fun _ => False) wr W) => HK3.out W i hil _ _ _ _ _ _ _ hd (up_new (hF.up HU.out) hf) (hW.keep hf))
      have HF := hide hF
      have hkI : (i : Int) < (ps.length : Int) := by omega
      clear hW hF hd
      go_wp2_with (go_at_call 41; refine (HK.out _ ((Fr.refl _ _).alloc _)).mono ?_; rintro e9 w9 ⟨rfl, hw9, F9⟩)
      exact ⟨⟨i + 1, by go_num, hil, hw9, HF.out.trans ((FW.of ((Fr.refl _ _).alloc _)).trans F9)⟩, by simp [intOf]; omega⟩
    · have e : i = ps.length := by omega
      subst e
      rw [List.take_length] at hW
      have HW := hide hW
      have HF := hide hF
      have hil' : ¬ ((ps.length : Int) < (ps.length : Int)) := by omega
      clear hW hF hil
      go_wp2
      exact bodyPost_end (results_none rfl _ _ _) rfl ⟨rfl, by rw [HT2.out]; exact HW.out, HF.out⟩

end Go.Proofs.Ytilcigjhogcjkaa
