/-
  What is proved here: the instructions that one goes on to are reached: check's goOn.
-/
import Derived.Test.YtmogglmofbbjlaaKWays
namespace Go.Proofs.Ytmogglmofbbjlaa
open Go Go.RowKit

theorem reachAll_drop {dep : Int} {l : List Int} {i : Nat} {t : Int} (h : l[i]? = some t) (d : Nat → Int) (T : Nat → Bool) : reachAll dep (l.drop i) d T = if reachD d t.toNat dep t.toNat = dep then reachAll dep (l.drop (i + 1)) (reachD d t.toNat dep) (reachT d T t.toNat) else (31, reachD d t.toNat dep, reachT d T t.toNat) := by
  obtain ⟨hi, e⟩ := List.getElem?_eq_some_iff.1 h
  rw [List.drop_eq_getElem_cons hi, e]
  rfl
theorem ways_len (k pc : Nat) (a : Int) : (ways k pc a).length ≤ 2 := by
  unfold ways
  split <;> split <;> simp

/-- The list of places lies apart from what turns. -/
structure WS (w : World) (fb db : Nat) (tv : Value) (ao : Option Addr) (l : List Int) : Prop where
  cells : l = [] ∨ ∃ g, ao = some ⟨g, 0, none⟩ ∧ g < w.heap.size ∧ ¬ turnB fb db tv g ∧ ∀ j x, l[j]? = some x → w.cell? ⟨g, j, none⟩ = some (.int .i64 x)
theorem WS.cell {w : World} {fb db : Nat} {tv : Value} {ao : Option Addr} {l : List Int} (h : WS w fb db tv ao l) {i : Nat} {t : Int} (hi : l[i]? = some t) : ∃ g, ao = some ⟨g, 0, none⟩ ∧ w.cell? ⟨g, i, none⟩ = some (.int .i64 t) := by
  rcases h.cells with e | ⟨g, e, -, -, hc⟩
  · subst e; simp at hi
  · exact ⟨g, e, hc i t hi⟩
theorem WS.step {w w' : World} {fb db : Nat} {tv tv' : Value} {ao : Option Addr} {l : List Int} (h : WS w fb db tv ao l) (hf : Fr (turnB fb db tv) w w') (hs : Stays w.heap.size tv tv') : WS w' fb db tv' ao l := by
  rcases h.cells with e | ⟨g, e, hg, hn, hc⟩
  · exact ⟨.inl e⟩
  · refine ⟨.inr ⟨g, e, Nat.lt_of_lt_of_le hg hf.size, fun ht => ?_, fun j x hj => (hf.cell hg hn).trans (hc j x hj)⟩⟩
    rcases ht with ht | ht | ht
    · exact hn (.inl ht)
    · exact hn (.inr (.inl ht))
    · rcases hs g ht with e2 | e2
      · exact hn (.inr (.inr e2))
      · omega

set_option maxRecDepth 20000 in
set_option maxHeartbeats 1000000 in
theorem goOn_any (B : Nat) (w : World) (fb cb pb : Nat) (so : Option Addr) (np sc : Nat) (fr : Nat → Int) (num : Nat) (p : PR) (q : Hd) (db : Nat) (tv : Value) (n : Nat) (f : Nat → Nat) (d : Nat → Int) (T : Nat → Bool) (h : FSt B w fb cb pb so np sc fr num p q db tv n f d T) (pc k : Nat) (dep : Int) (hpc : pc < p.len) (hop : p.op pc = (k : Int)) (hk : k < 22) (h0 : 0 ≤ dep) (h1 : dep ≤ 4096) (G : Nat × (Nat → Int) × (Nat → Bool)) (hG : G = goOnM p.len k pc (p.a pc) dep d T) :
    Calls Try.prog 35 #[.pointer (some ⟨fb, 0, none⟩), .int .i64 (pc : Int), .int .i64 dep] w fun e w' => e = .returned (.int .i64 (G.1 : Int)) ∧ (G.1 = 0 → ∃ tv' n' f', FSt B w' fb cb pb so np sc fr num p q db tv' n' f' G.2.1 G.2.2) ∧ Fr (fun k => B ≤ k) w w' := by
  have KW := ways_any w fb cb pb so np sc fr num p q _ _ h.rd pc k hpc h.l2 hop hk
  have hl2 := ways_len k pc (p.a pc)
  unfold goOnM at hG
  have c4 : w.cell? ⟨fb, 4, none⟩ = some (.slice q.co p.len q.cc) := cell_row h.rd.fo rfl
  have hfb : fb < w.heap.size := (Array.getElem?_eq_some_iff.1 h.rd.fo).1
  have hdb := h.dep.lt
  have hB1 := h.l1
  have hB2 := h.l2
  generalize ways k pc (p.a pc) = l at *
  have HKW := hide KW
  have HH := hide h
  clear KW h
  go_enter Try.func35, Try.ntmps35
  go_wp2_with (go_at_call 42; refine HKW.out.mono ?_; rintro e w1 ⟨v, rfl, ⟨ao, cap, rfl, hlc, hcap, hws⟩, F1⟩; have c41 := (F1.cell hfb (fun e => e)).trans c4)
  have W1 : WS w1 fb db tv ao l := ⟨by
    rcases hws with e | ⟨g, e, hg, hc⟩
    · exact .inl e
    · by_cases hl0 : l = []
      · exact .inl hl0
      · obtain ⟨t, ht⟩ : ∃ t, l[0]? = some t := by
          cases l with
          | nil => exact absurd rfl hl0
          | cons a b => exact ⟨a, rfl⟩
        refine .inr ⟨g, e, World.block_lt_of_cell? w1 _ (hc 0 t ht), fun hn => ?_, hc⟩
        rcases hn with hn | hn | hn
        · omega
        · omega
        · have := HH.out.ov.block_lt hn
          omega⟩
  have HW1 := hide W1
  have HF1 := hide F1
  have HH1 := hide (HH.out.new F1)
  clear W1 F1 hws HH c4 hfb hdb
  go_loop [17] (fun u => ∃ i : Nat, u = .int .i64 (i : Int) ∧ i ≤ l.length ∧ (l.take i).all (fun t => isIn t 0 ((p.len : Int) - 1)) = true) (fun u => l.length - (intOf u).toNat)
  case atStart => exact ⟨0, rfl, Nat.zero_le _, rfl⟩
  case round =>
    obtain ⟨i, rfl, hi, hall⟩ := hrel
    by_cases hil : i < l.length
    · obtain ⟨t, ht⟩ : ∃ t, l[i]? = some t := ⟨_, List.getElem?_eq_getElem hil⟩
      obtain ⟨g, e, hc⟩ := HW1.out.cell ht
      subst e
      have htk : l.take (i + 1) = l.take i ++ [t] := by
        rw [List.take_add_one, ht]; rfl
      by_cases hin : isIn t 0 ((p.len : Int) - 1) = true
      · have HN := hide hin
        have HT : Hid ((l.take (i + 1)).all (fun t => isIn t 0 ((p.len : Int) - 1)) = true) := by
          unfold Hid
          rw [htk, List.all_append, hall]
          simp [hin]
        clear hin htk hall ht
        go_wp2_with (go_at_call 30; refine (within_any _ _ _ _).mono ?_; rintro e w' ⟨rfl, rfl⟩; rw [HN.out])
        exact ⟨⟨i + 1, by go_num, hil, HT.out⟩, by simp [intOf]; omega⟩
      · have hin' : isIn t 0 ((p.len : Int) - 1) = false := by simpa using hin
        have HN := hide hin'
        have HG : Hid (G = (32, d, T)) := by
          unfold Hid
          rw [hG, if_neg]
          intro hh
          have := List.all_eq_true.1 hh t (List.mem_of_getElem? ht)
          exact hin this
        clear hin hin' htk hall ht hG
        go_wp2_with (go_at_call 30; refine (within_any _ _ _ _).mono ?_; rintro e w' ⟨rfl, rfl⟩; rw [HN.out])
        go_ret
        refine ⟨retI (by rw [HG.out]; rfl), fun h => ?_, HF1.out.mono (fun _ _ e => e.elim)⟩
        rw [HG.out] at h
        cases h
    · have e : i = l.length := by omega
      subst e
      rw [List.take_length] at hall
      rw [if_pos hall] at hG
      have HG : Hid (G = reachAll dep (l.drop 0) d T) := hG
      have HA : Hid (∀ t, t ∈ l → 0 ≤ t ∧ t ≤ (p.len : Int) - 1) := fun t ht => by simpa [isIn] using List.all_eq_true.1 hall t ht
      clear hall hG hil
      go_wp2
      go_loopw [34] (fun u wr => ∃ (i : Nat) (di : Nat → Int) (Ti : Nat → Bool) (tvi : Value) (ni : Nat) (fi : Nat → Nat), u = .int .i64 (i : Int) ∧ i ≤ l.length ∧ G = reachAll dep (l.drop i) di Ti ∧ FSt B wr fb cb pb so np sc fr num p q db tvi ni fi di Ti ∧ WS wr fb db tvi ao l ∧ Fr (fun k => B ≤ k) w wr) (fun u _ => l.length - (intOf u).toNat)
      case atStart => exact ⟨0, d, T, tv, n, f, rfl, Nat.zero_le _, HG.out, HH1.out, HW1.out, HF1.out.mono (fun _ _ e => e.elim)⟩
      case round =>
        clear HG HH1 HW1 HF1 hop hl2
        obtain ⟨i, di, Ti, tvi, ni, fi, rfl, hi, hG, hS, hW, hF⟩ := hrel
        by_cases hil : i < l.length
        · obtain ⟨t, ht⟩ : ∃ t, l[i]? = some t := ⟨_, List.getElem?_eq_getElem hil⟩
          obtain ⟨g, e, hc⟩ := hW.cell ht
          subst e
          have hr := HA.out t (List.mem_of_getElem? ht)
          rw [reachAll_drop ht] at hG
          obtain ⟨x, rfl⟩ : ∃ x : Nat, t = (x : Int) := ⟨t.toNat, by omega⟩
          have KR := reach_any B wr fb cb pb so np sc fr num p q db tvi ni fi di Ti hS x dep (by omega) h0 h1
          rw [Int.toNat_natCast] at hG
          by_cases hdd : reachD di x dep x = dep
          · rw [decide_eq_true hdd] at KR
            rw [if_pos hdd] at hG
            have HK := hide KR
            have HG := hide hG
            have HS := hide hS
            have HW := hide hW
            have HF := hide hF
            clear KR hG hS hW hF hdd ht hr
            go_wp2_with (go_at_call 31; refine HK.out.mono ?_; rintro e w2 ⟨rfl, ⟨tv2, n2, f2, S2, ST2⟩, F2⟩)
            exact ⟨⟨i + 1, _, _, tv2, n2, f2, by go_num, hil, HG.out, S2, HW.out.step F2 ST2, HF.out.trans (HS.out.turn F2) (fun _ _ e => e)⟩, by simp [intOf]; omega⟩
          · rw [decide_eq_false hdd] at KR
            rw [if_neg hdd] at hG
            have HK := hide KR
            have HG := hide hG
            have HS := hide hS
            have HF := hide hF
            clear KR hG hS hW hF hdd ht hr
            go_wp2_with (go_at_call 31; refine HK.out.mono ?_; rintro e w2 ⟨rfl, -, F2⟩)
            go_ret
            refine ⟨retI (by rw [HG.out]; rfl), fun h => ?_, HF.out.trans (HS.out.turn F2) (fun _ _ e => e)⟩
            rw [HG.out] at h
            cases h
        · rw [List.drop_of_length_le (by omega)] at hG
          have HG : Hid (G = (0, di, Ti)) := hG
          have HS := hide hS
          have HF := hide hF
          clear hG hS hW hF
          have hil' : ¬ ((i : Int) < (l.length : Int)) := by omega
          go_wp2
          go_ret
          exact ⟨retI (by rw [HG.out]; rfl), fun _ => ⟨tvi, ni, fi, by rw [HG.out]; exact HS.out⟩, HF.out⟩

end Go.Proofs.Ytmogglmofbbjlaa
