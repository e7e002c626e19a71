/-
  What is proved here: All (the document's table, tandemref14).
-/
import Derived.Test.YtcefeclgehijpaaFRefI
namespace Go.Proofs.Ytcefeclgehijpaa
open Go Go.RowKit

/-- What All comes to (the document's). -/
def RAllE (w : World) (M : List PM) (e : Ending) (w' : World) : Prop :=
  ∃ (ao : Option Addr) (cap : Nat) (L : List Fd), e = .returned (.slice ao L.length cap) ∧ FRow w' ao L.length (fun i => L.getD i z0) ∧ L.Perm (fdsM M) ∧ L.Pairwise (fun x y => ¬ ltF y x) ∧ Fr (fun _ => False) w w' ∧ L.length ≤ 9223372036854775807

theorem fdsM_len (M : List PM) : (fdsM M).length ≤ M.length := by
  unfold fdsM
  rw [List.length_map]
  exact List.length_filter_le _ _
theorem own_frow {w : World} {base : Nat} {u : Value} {L : List Fd} (h : w.ownsRow base 37 4 u L.length (rowV L)) : ∃ ao cap, u = .slice ao L.length cap ∧ FRow w ao L.length (fun i => L.getD i z0) := by
  obtain ⟨-, ⟨rfl, h0⟩ | ⟨g, cap, cur, rfl, hg, hb, h3, h4, h5, h6⟩⟩ := h
  · exact ⟨none, 0, by rw [h0], .inl h0⟩
  · refine ⟨some ⟨g, 0, none⟩, cap, rfl, ?_⟩
    have := frow_of_holds (holds_of_row hb (by simpa using h6))
    have e : ((L.map some).toArray.toList).map ob = L := by
      show (L.map some).map ob = L
      rw [List.map_map]
      conv => rhs; rw [← List.map_id L]
      rfl
    rw [e] at this
    simpa using this
theorem own_fo {w : World} {base n : Nat} {u : Value} {L : List Fd} (h : w.ownsRow base 37 4 u n (rowV L)) (hn : n = L.length) (h0 : 0 < n) : ∃ g cap, u = .slice (some ⟨g, 0, none⟩) n cap ∧ FO w base g cap L := by
  subst hn
  have h' := h
  obtain ⟨-, ⟨rfl, h1⟩ | ⟨g, cap, cur, rfl, hg, hb, h3, h4, h5, h6⟩⟩ := h
  · omega
  · exact ⟨g, cap, rfl, h'⟩
theorem FO.fr {w w' : World} {base g cap : Nat} {L : List Fd} (h : FO w base g cap L) (F : Fr (fun _ => False) w w') : FO w' base g cap L := ownsRow_fr h F (fun _ _ e => e)

theorem FO.swap {w : World} {base g cap k k0 : Nat} {L : List Fd} {f a : Fd} (h : FO w base g cap L) (hk : L[k]? = some f) (h0 : L[k0]? = some a) (hne : k0 ≠ k) :
    (w.frozen? ⟨g, k * 4, none⟩ = false ∧ w.cell? ⟨g, k * 4, none⟩ = some (.int .i64 f.p)) ∧
    ((w.setCell ⟨g, k * 4, none⟩ (.int .i64 a.p)).frozen? ⟨g, k * 4 + 1, none⟩ = false ∧ (w.setCell ⟨g, k * 4, none⟩ (.int .i64 a.p)).cell? ⟨g, k * 4 + 1, none⟩ = some (.int .i64 f.c)) ∧
    (((w.setCell ⟨g, k * 4, none⟩ (.int .i64 a.p)).setCell ⟨g, k * 4 + 1, none⟩ (.int .i64 a.c)).frozen? ⟨g, k * 4 + 2, none⟩ = false ∧ ((w.setCell ⟨g, k * 4, none⟩ (.int .i64 a.p)).setCell ⟨g, k * 4 + 1, none⟩ (.int .i64 a.c)).cell? ⟨g, k * 4 + 2, none⟩ = some (.int .i64 f.m)) ∧
    ((((w.setCell ⟨g, k * 4, none⟩ (.int .i64 a.p)).setCell ⟨g, k * 4 + 1, none⟩ (.int .i64 a.c)).setCell ⟨g, k * 4 + 2, none⟩ (.int .i64 a.m)).frozen? ⟨g, k * 4 + 3, none⟩ = false ∧ (((w.setCell ⟨g, k * 4, none⟩ (.int .i64 a.p)).setCell ⟨g, k * 4 + 1, none⟩ (.int .i64 a.c)).setCell ⟨g, k * 4 + 2, none⟩ (.int .i64 a.m)).cell? ⟨g, k * 4 + 3, none⟩ = some (.int .i64 f.k)) ∧
    (((((w.setCell ⟨g, k * 4, none⟩ (.int .i64 a.p)).setCell ⟨g, k * 4 + 1, none⟩ (.int .i64 a.c)).setCell ⟨g, k * 4 + 2, none⟩ (.int .i64 a.m)).setCell ⟨g, k * 4 + 3, none⟩ (.int .i64 a.k)).frozen? ⟨g, k0 * 4, none⟩ = false ∧ ((((w.setCell ⟨g, k * 4, none⟩ (.int .i64 a.p)).setCell ⟨g, k * 4 + 1, none⟩ (.int .i64 a.c)).setCell ⟨g, k * 4 + 2, none⟩ (.int .i64 a.m)).setCell ⟨g, k * 4 + 3, none⟩ (.int .i64 a.k)).cell? ⟨g, k0 * 4, none⟩ = some (.int .i64 a.p)) ∧
    ((((((w.setCell ⟨g, k * 4, none⟩ (.int .i64 a.p)).setCell ⟨g, k * 4 + 1, none⟩ (.int .i64 a.c)).setCell ⟨g, k * 4 + 2, none⟩ (.int .i64 a.m)).setCell ⟨g, k * 4 + 3, none⟩ (.int .i64 a.k)).setCell ⟨g, k0 * 4, none⟩ (.int .i64 f.p)).frozen? ⟨g, k0 * 4 + 1, none⟩ = false ∧ (((((w.setCell ⟨g, k * 4, none⟩ (.int .i64 a.p)).setCell ⟨g, k * 4 + 1, none⟩ (.int .i64 a.c)).setCell ⟨g, k * 4 + 2, none⟩ (.int .i64 a.m)).setCell ⟨g, k * 4 + 3, none⟩ (.int .i64 a.k)).setCell ⟨g, k0 * 4, none⟩ (.int .i64 f.p)).cell? ⟨g, k0 * 4 + 1, none⟩ = some (.int .i64 a.c)) ∧
    (((((((w.setCell ⟨g, k * 4, none⟩ (.int .i64 a.p)).setCell ⟨g, k * 4 + 1, none⟩ (.int .i64 a.c)).setCell ⟨g, k * 4 + 2, none⟩ (.int .i64 a.m)).setCell ⟨g, k * 4 + 3, none⟩ (.int .i64 a.k)).setCell ⟨g, k0 * 4, none⟩ (.int .i64 f.p)).setCell ⟨g, k0 * 4 + 1, none⟩ (.int .i64 f.c)).frozen? ⟨g, k0 * 4 + 2, none⟩ = false ∧ ((((((w.setCell ⟨g, k * 4, none⟩ (.int .i64 a.p)).setCell ⟨g, k * 4 + 1, none⟩ (.int .i64 a.c)).setCell ⟨g, k * 4 + 2, none⟩ (.int .i64 a.m)).setCell ⟨g, k * 4 + 3, none⟩ (.int .i64 a.k)).setCell ⟨g, k0 * 4, none⟩ (.int .i64 f.p)).setCell ⟨g, k0 * 4 + 1, none⟩ (.int .i64 f.c)).cell? ⟨g, k0 * 4 + 2, none⟩ = some (.int .i64 a.m)) ∧
    ((((((((w.setCell ⟨g, k * 4, none⟩ (.int .i64 a.p)).setCell ⟨g, k * 4 + 1, none⟩ (.int .i64 a.c)).setCell ⟨g, k * 4 + 2, none⟩ (.int .i64 a.m)).setCell ⟨g, k * 4 + 3, none⟩ (.int .i64 a.k)).setCell ⟨g, k0 * 4, none⟩ (.int .i64 f.p)).setCell ⟨g, k0 * 4 + 1, none⟩ (.int .i64 f.c)).setCell ⟨g, k0 * 4 + 2, none⟩ (.int .i64 f.m)).frozen? ⟨g, k0 * 4 + 3, none⟩ = false ∧ (((((((w.setCell ⟨g, k * 4, none⟩ (.int .i64 a.p)).setCell ⟨g, k * 4 + 1, none⟩ (.int .i64 a.c)).setCell ⟨g, k * 4 + 2, none⟩ (.int .i64 a.m)).setCell ⟨g, k * 4 + 3, none⟩ (.int .i64 a.k)).setCell ⟨g, k0 * 4, none⟩ (.int .i64 f.p)).setCell ⟨g, k0 * 4 + 1, none⟩ (.int .i64 f.c)).setCell ⟨g, k0 * 4 + 2, none⟩ (.int .i64 f.m)).cell? ⟨g, k0 * 4 + 3, none⟩ = some (.int .i64 a.k)) ∧
    FO ((((((((w.setCell ⟨g, k * 4, none⟩ (.int .i64 a.p)).setCell ⟨g, k * 4 + 1, none⟩ (.int .i64 a.c)).setCell ⟨g, k * 4 + 2, none⟩ (.int .i64 a.m)).setCell ⟨g, k * 4 + 3, none⟩ (.int .i64 a.k)).setCell ⟨g, k0 * 4, none⟩ (.int .i64 f.p)).setCell ⟨g, k0 * 4 + 1, none⟩ (.int .i64 f.c)).setCell ⟨g, k0 * 4 + 2, none⟩ (.int .i64 f.m)).setCell ⟨g, k0 * 4 + 3, none⟩ (.int .i64 f.k)) base g cap ((L.set k a).set k0 f) ∧ Fr (fun j => j = g) w ((((((((w.setCell ⟨g, k * 4, none⟩ (.int .i64 a.p)).setCell ⟨g, k * 4 + 1, none⟩ (.int .i64 a.c)).setCell ⟨g, k * 4 + 2, none⟩ (.int .i64 a.m)).setCell ⟨g, k * 4 + 3, none⟩ (.int .i64 a.k)).setCell ⟨g, k0 * 4, none⟩ (.int .i64 f.p)).setCell ⟨g, k0 * 4 + 1, none⟩ (.int .i64 f.c)).setCell ⟨g, k0 * 4 + 2, none⟩ (.int .i64 f.m)).setCell ⟨g, k0 * 4 + 3, none⟩ (.int .i64 f.k)) := by
  have hkl := (List.getElem?_eq_some_iff.1 hk).1
  have h0l := (List.getElem?_eq_some_iff.1 h0).1
  obtain ⟨q0, q1, q2, q3⟩ := rowV_at hk
  have hO : w.ownsRow base 37 4 (.slice (some ⟨g, 0, none⟩) L.length cap) L.length (rowV L) := h
  obtain ⟨a0, a1, a2, a3, s4⟩ := own_chain hO (i := k) (by omega) q0 q1 q2 q3 (.int .i64 a.p) (.int .i64 a.c) (.int .i64 a.m) (.int .i64 a.k)
  have b0 : ((((rowV L).set (k * 4) (.int .i64 a.p)).set (k * 4 + 1) (.int .i64 a.c)).set (k * 4 + 2) (.int .i64 a.m)).set (k * 4 + 3) (.int .i64 a.k) = rowV (L.set k a) := (rowV_set hkl a).symm
  rw [b0] at s4
  have h0' : (L.set k a)[k0]? = some a := by rw [List.getElem?_set_ne (Ne.symm hne)]; exact h0
  obtain ⟨r0, r1, r2, r3⟩ := rowV_at h0'
  obtain ⟨c0, c1, c2, c3, s8⟩ := own_chain s4 (i := k0) (by omega) r0 r1 r2 r3 (.int .i64 f.p) (.int .i64 f.c) (.int .i64 f.m) (.int .i64 f.k)
  refine ⟨a0, a1, a2, a3, c0, c1, c2, c3, ?_, ?_⟩
  · have hl : k0 < (L.set k a).length := by rw [List.length_set]; exact h0l
    unfold FO
    rw [rowV_set hl, List.length_set, List.length_set]
    exact s8
  · exact (fo_fr4 w g k _ _ _ _).trans (fo_fr4 _ g k0 _ _ _ _) (fun _ _ e => e)
theorem Ins.step' {L : List Fd} {f a : Fd} {k k0 : Nat} (h : Ins L f k) (hk : k = k0 + 1) (ha : L[k0]? = some a) (hl : ltF f a) : Ins ((L.set k a).set k0 f) f k0 ∧ ((L.set k a).set k0 f).Perm L := by
  subst hk
  exact h.step ha hl
theorem fo_own {w : World} {base g cap n : Nat} {L : List Fd} (h : FO w base g cap L) (hn : L.length = n) : w.ownsRow base 37 4 (.slice (some ⟨g, 0, none⟩) n cap) L.length (rowV L) := by
  subst hn
  exact h

set_option maxRecDepth 20000 in
set_option maxHeartbeats 4000000 in
theorem rall_any (w : World) (base b : Nat) (M : List PM) (u v : Value) (h : RT w base b M u v) (hM : M.length * 32 ≤ 140737488355328) :
    Calls Try.prog 20 #[.pointer (some ⟨b, 0, none⟩)] w fun e w' => RAllE w M e w' := by
  obtain ⟨ii, hi, hz0, hz1, hz2⟩ := info_feed
  obtain ⟨ao, cap, rfl⟩ := row_shape h.fs
  have HT := hide h
  clear h
  go_enter Try.func20, Try.ntmps20
  go_wp2_with fail
  go_loopw [3, 4] (fun x3 x4 wr => ∃ (j : Nat) (L : List Fd), x4 = .int .i64 (j : Int) ∧ j ≤ M.length ∧ wr.ownsRow w.heap.size 37 4 x3 L.length (rowV L) ∧ L.Perm (fdsM (M.take j)) ∧ L.Pairwise (fun x y => ¬ ltF y x) ∧ Fr (fun _ => False) w wr) (fun _ x4 _ => M.length - (intOf x4).toNat)
  case atStart => exact ⟨0, [], rfl, Nat.zero_le _, ⟨rfl, .inl ⟨rfl, rfl⟩⟩, List.Perm.nil, List.Pairwise.nil, Fr.refl _ _⟩
  case round =>
    obtain ⟨j, L, rfl, hj, hO, hP, hS, hF⟩ := hrel
    have hT := HT.out.same hF
    have c0 := hT.c0
    have hLl : L.length ≤ M.length := by
      have h1 := hP.length_eq
      have h2 := fdsM_len (M.take j)
      rw [List.length_take] at h2
      omega
    have hszw := hF.size
    by_cases hjl : j < M.length
    · have hjI : (j : Int) < (M.length : Int) := by omega
      obtain ⟨x, hx⟩ : ∃ x, M[j]? = some x := ⟨_, List.getElem?_eq_getElem hjl⟩
      obtain ⟨g, cap2, g', cap', e1, -, q0, q1, q2, q3, -, hml⟩ := hT.at hx
      cases e1
      have hLj : L.length ≤ j := by
        have h1 := hP.length_eq
        have h2 := fdsM_len (M.take j)
        rw [List.length_take] at h2
        omega
      obtain ⟨ao3, cap3, rfl⟩ := row_shape hO
      have HO := hide hO
      have HP := hide hP
      have HS := hide hS
      have HF := hide hF
      clear hO hP hS hF hT
      cases hsw : x.saw with
      | false =>
        have hmk : x.m = 0 ∧ x.k = -1 := by simpa [PM.saw] using hsw
        have HN := hide (fdsM_no hx hsw)
        rw [hmk.1] at q2
        rw [hmk.2] at q3
        clear hsw hmk hx
        go_wp2_with fail
        refine ⟨⟨j + 1, L, by go_num, hjl, ownsRow_fr HO.out ((Fr.refl _ _).alloc _) (fun _ _ e => e), by rw [HN.out]; exact HP.out, HS.out, HF.out.alloc _⟩, by simp [intOf]; omega⟩
      | true =>
        have hmk : ¬ (x.m = 0 ∧ x.k = -1) := by
          intro hh
          simp [PM.saw, hh] at hsw
        have HN := hide (fdsM_yes hx hsw)
        have HMK := hide hmk
        clear hsw hmk hx
        go_upto_region 6 with fail
        go_cut [30] from 7 to 99 (fun s wc => s = .bool false ∧ Hid (FB wc wr.heap.size x.fd) ∧ Hid (Fr (fun _ => False) wr wc))
        case first =>
          have hB : Hid (FB (wr.alloc (.cells #[.int .i64 x.p, .int .i64 x.c, .int .i64 x.m, .int .i64 x.k] 37)) wr.heap.size x.fd) := hide (heap_alloc_new wr _)
          have y2 := hB.out.k2
          have y3 := hB.out.k3
          dsimp only [PM.fd] at y2 y3
          have hF1 : Hid (Fr (fun _ => False) wr (wr.alloc (.cells #[.int .i64 x.p, .int .i64 x.c, .int .i64 x.m, .int .i64 x.k] 37))) := hide ((Fr.refl _ _).alloc _)
          by_cases hm : x.m = 0
          · have hk : (x.k == -1) = false := by
              rw [beq_eq_false_iff_ne]
              exact fun e => HMK.out ⟨hm, e⟩
            have hB1 := hB
            have hF2 := hF1
            rw [hm] at hB1 hF2
            rw [hm] at y2
            go_wp2_with fail
            go_meet
            exact ⟨rfl, hB1, hF2⟩
          · go_wp2_with fail
            go_meet
            exact ⟨rfl, hB, hF1⟩
        case rest =>
          obtain ⟨rfl, HB, HF1⟩ := hcut
          have y0 := HB.out.k0
          have y1 := HB.out.k1
          have y2 := HB.out.k2
          have y3 := HB.out.k3
          clear q0 q1 q2 q3 c0
          obtain ⟨L2, HL2⟩ : ∃ L2, Hid (L2 = L ++ [x.fd]) := ⟨_, rfl⟩
          have HL2L : Hid (L2.length = L.length + 1) := hide (by rw [HL2.out]; simp)
          have hL2b : L2.length ≤ 4398046511105 := by have := HL2L.out; omega
          have hbs : w.heap.size ≤ wc.heap.size := by have := HF1.out.size; omega
          have HO1 := hide (ownsRow_fr HO.out (HF1.out.alloc (.cells #[.int .i64 x.fd.p, .int .i64 x.fd.c, .int .i64 x.fd.m, .int .i64 x.fd.k] 37)) (fun _ _ e => e))
          go_upto_region 8 with (at_builtin; refine wpList_append_own _ rfl _ _ 26 rfl w.heap.size 37 ii (.agg #[.int .i64 0, .int .i64 0, .int .i64 0, .int .i64 0]) 4 32 Try.underlying26 hi hz0 hz1 hz2 rfl (by decide) _ _ _ rfl HO1.out ⟨wc.heap.size, 0, none⟩ 1 1 (encF x.fd) rfl rfl (enc_cells (f := x.fd) (heap_alloc_new wc _)) (fun u hu => rowV_one [x.fd] u (by simpa [rowV] using hu)) (by unfold maxLen; omega) (by omega) (by rw [World.size_alloc]; omega) ?_; intro v5 w5 hown hgrow hnil; obtain ⟨g5, cap5, rfl, hfo⟩ := own_fo (L := L2) (n := L2.length) (by rw [HL2L.out, HL2.out, rowV_snoc]; exact hown) rfl (by have := HL2L.out; omega); have HFO := hide hfo; have HG5 := hide hgrow; clear hown hgrow hnil hfo)
          have hob : ∀ k, (Value.slice ao3 L.length cap3).ownBlock = some k → w.heap.size ≤ k := fun k hk => ownsRow_ob HO.out hk
          have HF5 : Hid (Fr (fun _ => False) w w5) := hide (((HF.out.trans HF1.out (fun _ _ e => e)).alloc _).grow HG5.out (fun k hk e => by have := hob k e; omega))
          clear HO1 HG5 hob y0 y1 y2 y3
          go_wp2_with fail
          go_loopw [6] (fun y wx => ∃ (k : Nat) (L' : List Fd), y = .int .i64 (k : Int) ∧ Ins L' x.fd k ∧ L'.Perm L2 ∧ L'.length = L2.length ∧ FO wx w.heap.size g5 cap5 L' ∧ Fr (fun _ => False) w wx) (fun y _ => (intOf y).toNat)
          case atStart =>
            refine ⟨L.length, L2, ?_, by rw [HL2.out]; exact Ins.start HS.out, List.Perm.refl _, rfl, HFO.out, HF5.out⟩
            congr 1
            have := HL2L.out
            omega
          case round =>
            obtain ⟨k, L', rfl, hI, hP', hl', hfo, hF'⟩ := hrel
            have hkat := hI.at
            have hl2 := HL2L.out
            have hkl : k < L2.length := by
              have := (List.getElem?_eq_some_iff.1 hkat).1
              omega
            have HP2 : Hid (L2.Perm (fdsM (M.take (j + 1)))) := hide (by rw [HL2.out, HN.out]; exact HP.out.append_right [x.fd])
            generalize x.fd = f at *
            clear hl2
            by_cases hk0 : k = 0
            · subst hk0
              have HST := hide (hI.stop (fun a h => by omega))
              have HP3 := hide (hP'.trans HP2.out)
              have HFO2 := hide (fo_own hfo hl')
              have HF2 := hide hF'
              clear hI hkat hP' hfo hF'
              go_wp2_with fail
              go_quiet (fail)
              go_wp2_with fail
              exact ⟨⟨j + 1, L', by go_num, hjl, ownsRow_fr HFO2.out ((Fr.refl _ _).drewN _) (fun _ _ e => e), HP3.out, HST.out, HF2.out.drewN _⟩, by simp [intOf]; omega⟩
            · obtain ⟨k0, hkk⟩ : ∃ k0 : Nat, (k : Int) - 1 = (k0 : Int) := ⟨k - 1, by omega⟩
              have hke : k = k0 + 1 := by omega
              have hkI : (k : Int) < (L2.length : Int) := by omega
              have hk0I : (k0 : Int) < (L2.length : Int) := by omega
              have hkp : (k : Int) > 0 := by omega
              have hkn : 0 < k := by omega
              have hk0n : k0 < L2.length := by omega
              have hwr : IntKind.i64.wrap ((k : Int) - 1) = (k0 : Int) := by rw [hkk]; simp [IntKind.wrap, IntKind.bits, IntKind.signed]; omega
              obtain ⟨a, ha⟩ : ∃ a, L'[k0]? = some a := ⟨_, List.getElem?_eq_getElem (by omega)⟩
              obtain ⟨bn, hbn⟩ : ∃ b : Bool, (b = true ↔ ltF f a) := by
                rcases Classical.em (ltF f a) with h | h
                · exact ⟨true, by simp [h]⟩
                · exact ⟨false, by simp [h]⟩
              obtain ⟨c0, c1, -, -⟩ := hfo.at hkat
              obtain ⟨d0, d1, -, -⟩ := hfo.at ha
              have HFO2 := hide hfo
              have HF2 := hide hF'
              have HI := hide hI
              have HKA := hide hkat
              have HA := hide ha
              have HL := hide hl'
              have HP3 := hide hP'
              have HKE := hide hke
              clear hfo hF' hI hkat ha hl' hP' hke hkk
              go_upto_region 9 with fail
              go_cut [81] from 38 to 99 (fun s wc => s = .bool bn ∧ Hid (FO wc w.heap.size g5 cap5 L') ∧ Hid (Fr (fun _ => False) w wc))
              case first =>
                have HBN := hide hbn
                clear hbn
                by_cases h1 : f.p < a.p
                · have hb : Hid (bn = true) := hide (HBN.out.2 (.inl h1))
                  go_wp2_with fail
                  go_quiet (fail)
                  go_wp2_with fail
                  go_meet
                  exact ⟨by rw [hb.out], hide (HFO2.out.fr ((Fr.refl _ _).drewN _)), hide (HF2.out.drewN _)⟩
                · by_cases h2 : f.p = a.p
                  · have hb : Hid (bn = true ↔ f.c < a.c) := hide (by rw [HBN.out]; unfold ltF; omega)
                    have h1' : ¬ (a.p < a.p) := by omega
                    rw [h2] at c0
                    clear h1 h2
                    by_cases h3 : f.c < a.c
                    · have hb2 : Hid (bn = true) := hide (hb.out.2 h3)
                      go_wp2_with fail
                      go_quiet (fail)
                      go_wp2_with fail
                      go_meet
                      exact ⟨by rw [hb2.out], hide (HFO2.out.fr ((Fr.refl _ _).drewN _)), hide (HF2.out.drewN _)⟩
                    · have hb2 : Hid (bn = false) := hide (by rw [← Bool.not_eq_true, hb.out]; exact h3)
                      go_wp2_with fail
                      go_quiet (fail)
                      go_wp2_with fail
                      go_meet
                      exact ⟨by rw [hb2.out]; congr 1; simp; omega, hide (HFO2.out.fr ((Fr.refl _ _).drewN _)), hide (HF2.out.drewN _)⟩
                  · have hb2 : Hid (bn = false) := hide (by rw [← Bool.not_eq_true, HBN.out]; unfold ltF; omega)
                    go_wp2_with fail
                    go_quiet (fail)
                    go_wp2_with fail
                    go_meet
                    exact ⟨by rw [hb2.out]; first | rfl | (congr 1; simp; omega) | (congr 1; simp [h2]), hide (HFO2.out.fr ((Fr.refl _ _).drewN _)), hide (HF2.out.drewN _)⟩
              case rest =>
                obtain ⟨rfl, HFO3, HF3⟩ := hcut
                clear HFO2 HF2 c0 c1 d0 d1
                cases bn with
                | false =>
                  have hnl : ¬ ltF f a := by simpa using hbn
                  have HST := hide (HI.out.stop (fun a' h h' => by
                    have e : k - 1 = k0 := by have := HKE.out; omega
                    rw [e, HA.out] at h'
                    cases h'
                    exact hnl))
                  clear hnl hbn
                  go_wp2_with fail
                  exact ⟨⟨j + 1, L', by go_num, hjl, fo_own HFO3.out HL.out, HP3.out.trans HP2.out, HST.out, HF3.out⟩, by simp [intOf]; omega⟩
                | true =>
                  have hnl : ltF f a := by simpa using hbn
                  have HLT := hide hnl
                  obtain ⟨c0, c1, c2, c3⟩ := HFO3.out.at HKA.out
                  obtain ⟨d0, d1, d2, d3⟩ := HFO3.out.at HA.out
                  obtain ⟨⟨z0, y0⟩, ⟨z1, y1⟩, ⟨z2, y2⟩, ⟨z3, y3⟩, ⟨z4, y4⟩, ⟨z5, y5⟩, ⟨z6, y6⟩, ⟨z7, y7⟩, hfin, hfr⟩ := HFO3.out.swap HKA.out HA.out (by have := HKE.out; omega)
                  have HFIN := hide hfin
                  have HFR := hide hfr
                  clear hnl hbn hfin hfr
                  go_wp2_with fail
                  go_region
                  go_wp2_with fail
                  obtain ⟨i1, i2⟩ := HI.out.step' HKE.out HA.out HLT.out
                  refine ⟨⟨k0, (L'.set k a).set k0 f, by go_num, i1, i2.trans HP3.out, by simp [HL.out], HFIN.out.fr ((Fr.refl _ _).drew), ?_⟩, by have := HKE.out; simp [intOf]; omega⟩
                  have hg5 := HFO3.out.lt.1
                  have F9 := HF3.out.trans HFR.out (fun k hk e => by omega)
                  exact F9.drew
    · have e : j = M.length := by omega
      subst e
      have hjI : ¬ ((M.length : Int) < (M.length : Int)) := by omega
      rw [List.take_length] at hP
      obtain ⟨ao3, cap3, rfl, hR⟩ := own_frow hO
      have HR := hide hR
      have HP := hide hP
      have HS := hide hS
      have HF := hide hF
      clear hO hP hS hF hT hR hjl
      go_wp2_with fail
      go_ret
      exact ⟨ao3, cap3, L, rfl, HR.out, HP.out, HS.out, HF.out, by omega⟩

end Go.Proofs.Ytcefeclgehijpaa
