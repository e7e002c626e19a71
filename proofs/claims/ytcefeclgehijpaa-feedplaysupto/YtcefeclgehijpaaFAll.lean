/-
  What is proved here: All (package feed): the feeds that are not as at first, rising.
-/
import Derived.Test.YtcefeclgehijpaaFAllP
import Derived.Maps.RangeRun
import Derived.OwnWalk
namespace Go.Proofs.Ytcefeclgehijpaa
open Go Go.RowKit Go.Sort
open Go.ChangeMaps (setBlock)

def PL.fd (x : PL) : Fd := ⟨x.e.p, x.e.c, x.m, x.k⟩
def PL.saw (x : PL) : Bool := !decide (x.m = 0 ∧ x.k = -1)
/-- The feeds of places that have seen something. -/
def fds (D : List PL) : List Fd := (D.filter PL.saw).map PL.fd
theorem rowV_len (L : List Fd) : (rowV L).length = L.length * 4 := by
  induction L with
  | nil => rfl
  | cons x L ih => simp only [rowV, List.flatMap_cons, List.length_append, List.length_cons] at *; rw [ih]; simp [encF]; omega
theorem rowV_snoc (L : List Fd) (f : Fd) : rowV (L ++ [f]) = rowV L ++ encF f := by simp [rowV]

theorem info_feed : ∃ i, Try.prog.info? 37 = some i ∧ i.zero = some (.agg #[.int .i64 0, .int .i64 0, .int .i64 0, .int .i64 0]) ∧ i.size = 4 ∧ i.bytes = 32 := by
  refine info_parts (P := Try.prog) ?_
  kernel_rfl

theorem sb_same {w : World} {r : Nat} {o : Obj} (h : w.heap[r]? = some o) (o' : Obj) : (setBlock w r o').heap[r]? = some o' := by
  show (w.heap.setIfInBounds r o')[r]? = _
  rw [Array.getElem?_setIfInBounds_self_of_lt (lt_of_block h)]
theorem sb_other {w : World} {r k : Nat} (o' : Obj) (h : k ≠ r) : (setBlock w r o').heap[k]? = w.heap[k]? := Array.getElem?_setIfInBounds_ne (Ne.symm h)
theorem rowV_one (L : List Fd) : ∀ u ∈ rowV L, u.oneCell' = true := by
  intro u hu
  obtain ⟨f, -, hf⟩ := List.mem_flatMap.1 hu
  simp [encF] at hf
  rcases hf with rfl | rfl | rfl | rfl <;> rfl

theorem seen_push (D : List PL) (x : PL) : (D.map fun x => x.e.born).toArray.push x.e.en.born = ((D ++ [x]).map fun x => x.e.born).toArray := by simp [PE.en]
theorem ownsRow_ob {w : World} {base n : Nat} {E : TypeId} {s : Nat} {v : Value} {xs : List Value} (h : w.ownsRow base E s v n xs) {k : Nat} (hk : v.ownBlock = some k) : base ≤ k := by
  obtain ⟨-, ⟨rfl, -⟩ | ⟨g, cap, cur, rfl, hg, -⟩⟩ := h
  · cases hk
  · have : g = k := by simpa [Value.ownBlock] using hk
    omega
theorem enc_cells {w : World} {b : Nat} {f : Fd} (h : FB w b f) (j : Nat) (u : Value) (hj : (encF f)[j]? = some u) : w.cell? ((⟨b, 0, none⟩ : Addr).add j) = some u := by
  have hl : j < 4 := (List.getElem?_eq_some_iff.1 hj).1
  rcases (show j = 0 ∨ j = 1 ∨ j = 2 ∨ j = 3 by omega) with rfl | rfl | rfl | rfl
  · cases hj; exact h.k0
  · cases hj; exact h.k1
  · cases hj; exact h.k2
  · cases hj; exact h.k3
/-- So far: the places D were come to. -/
structure AL (w wr : World) (r clock : Nat) (T D : List PL) (u : Value) : Prop where
  sub : ∀ x ∈ D, x ∈ T
  bd : (D.map fun x => x.e.born).Nodup
  it : wr.heap[w.heap.size]? = some (.mapIter (some r) clock (D.map fun x => x.e.born).toArray clock)
  row : wr.ownsRow (w.heap.size + 1) 37 4 u (fds D).length (rowV (fds D))
  fr : Fr (fun _ => False) w wr

theorem ownsRow_fr {w w' : World} {base n : Nat} {E : TypeId} {s : Nat} {v : Value} {xs : List Value} {S : Nat → Prop} (h : w.ownsRow base E s v n xs) (F : Fr S w w') (hs : ∀ k, base ≤ k → ¬ S k) : w'.ownsRow base E s v n xs := by
  obtain ⟨h1, h2 | ⟨g, cap, cur, e, hg, hb, h3, h4, h5, h6⟩⟩ := h
  · exact ⟨h1, .inl h2⟩
  · exact ⟨h1, .inr ⟨g, cap, cur, e, hg, (F.block g (lt_of_block hb) (hs g hg)).trans hb, h3, h4, h5, h6⟩⟩

theorem AL.step {w wr W2 : World} {r clock : Nat} {T D : List PL} {u : Value} (h : AL w wr r clock T D u) {x : PL} (hx : x ∈ T) (hnb : x.e.born ∉ D.map fun x => x.e.born)
    (hit : W2.heap[w.heap.size]? = some (.mapIter (some r) clock ((D.map fun x => x.e.born).toArray.push x.e.born) clock)) (F : Fr (fun k => k = w.heap.size) wr W2) :
    (∀ y ∈ D ++ [x], y ∈ T) ∧ ((D ++ [x]).map fun x => x.e.born).Nodup ∧ W2.heap[w.heap.size]? = some (.mapIter (some r) clock ((D ++ [x]).map fun x => x.e.born).toArray clock) ∧
    W2.ownsRow (w.heap.size + 1) 37 4 u (fds D).length (rowV (fds D)) ∧ Fr (fun _ => False) w W2 := by
  refine ⟨?_, ?_, ?_, ownsRow_fr h.row F (fun k hk e => by omega), h.fr.trans F (fun k hk e => by omega)⟩
  · intro y hy
    rcases List.mem_append.1 hy with hy | hy
    · exact h.sub y hy
    · rw [List.mem_singleton] at hy
      subst hy
      exact hx
  · rw [List.map_append, List.nodup_append]
    refine ⟨h.bd, by simp, ?_⟩
    intro a ha b hb
    simp at hb
    subst hb
    intro e
    exact hnb (e ▸ ha)
  · rw [hit]
    simp
theorem fds_yes {D : List PL} {x : PL} (h : x.saw = true) : fds (D ++ [x]) = fds D ++ [x.fd] := by simp [fds, h]
theorem fds_no {D : List PL} {x : PL} (h : x.saw = false) : fds (D ++ [x]) = fds D := by simp [fds, h]
theorem fds_le {T D : List PL} (hs : ∀ x ∈ D, x ∈ T) (hd : (D.map fun x => x.e.born).Nodup) : (fds D).length ≤ T.length := by
  have h1 : (fds D).length ≤ D.length := by
    unfold fds
    rw [List.length_map]
    exact List.length_filter_le _ _
  have h2 : (D.map fun x => x.e.born).length ≤ (T.map fun x => x.e.born).length := by
    refine List.Nodup.length_le_of_subset hd ?_
    intro b hb
    obtain ⟨x, hx, rfl⟩ := List.mem_map.1 hb
    exact List.mem_map.2 ⟨x, hs x hx, rfl⟩
  simp at h2
  omega

/-- What All comes to: its slice, its feeds. -/
def AllE (w : World) (T : List PL) (e : Ending) (w' : World) : Prop :=
  ∃ (ao : Option Addr) (cap : Nat) (L : List Fd), e = .returned (.slice ao L.length cap) ∧ FRow w' ao L.length (fun i => L.getD i z0) ∧ L.Perm (fds T) ∧ L.Pairwise (fun x y => ¬ ltF y x) ∧ Fr (fun _ => False) w w' ∧ L.length ≤ 9223372036854775807

set_option maxRecDepth 20000 in
set_option maxHeartbeats 4000000 in
theorem all_any (w : World) (t r clock : Nat) (T : List PL) (h : TabAt w t r T clock) (hT : T.length * 32 ≤ 140737488355328) :
    Calls Try.prog 19 #[.pointer (some ⟨t, 0, none⟩)] w fun e w' => AllE w T e w' := by
  obtain ⟨i, hi, hz0, hz1, hz2⟩ := info_feed
  have hrg := run_range_map (P := Try.prog) w 50 59 _ r _ clock Try.underlying50 h.mp
  have c0 := h.cell
  have HT := hide h
  clear h
  go_enter Try.func19, Try.ntmps19
  go_wp2_with fail
  clear hrg c0
  go_loopw [3] (fun u wr => ∃ D, AL w wr r clock T D u) (fun _ wr => (leftOf ((T.map PL.e).map PE.en).toArray (wr.iterSeen w.heap.size)).size)
  case atStart =>
    exact ⟨[], ⟨(fun x hx => by cases hx), List.Pairwise.nil, heap_alloc_new w _, ⟨rfl, .inl ⟨rfl, rfl⟩⟩, (Fr.refl _ _).alloc _⟩⟩
  case round =>
    obtain ⟨D, hA⟩ := hrel
    have TA := HT.out.same hA.fr
    have hseen : wr.iterSeen w.heap.size = (D.map fun x => x.e.born).toArray := by unfold World.iterSeen; rw [hA.it]
    have hmapL : (((T.map PL.e).map PE.en).toArray).toList = (T.map PL.e).map PE.en := rfl
    have hold : ∀ x ∈ (((T.map PL.e).map PE.en).toArray).toList, x.born < clock := by
      intro x hx
      rw [hmapL] at hx
      obtain ⟨y, hy, rfl⟩ := List.mem_map.1 hx
      obtain ⟨z, hz, rfl⟩ := List.mem_map.1 hy
      exact HT.out.bn z hz
    rcases run_next_at (P := Try.prog) wr 0 w.heap.size r clock clock _ _ clock hA.it TA.mp hold (Nat.le_refl _) with ⟨h0, hnx⟩ | ⟨e, he, w1, hal, hnx⟩
    · have hall : ∀ x ∈ T, x.e.born ∈ D.map fun x => x.e.born := by
        intro x hx
        rcases Classical.em (x.e.born ∈ D.map fun x => x.e.born) with hm | hm
        · exact hm
        · exfalso
          have hin : x.e.en ∈ leftOf ((T.map PL.e).map PE.en).toArray (D.map fun x => x.e.born).toArray := by
            unfold leftOf
            rw [Array.mem_filter]
            refine ⟨?_, ?_⟩
            · simp only [List.mem_toArray]
              exact List.mem_map.2 ⟨x.e, List.mem_map.2 ⟨x, hx, rfl⟩, rfl⟩
            · have : (D.map fun x => x.e.born).toArray.contains x.e.en.born = false := by
                rw [show x.e.en.born = x.e.born from rfl]
                cases hc : (D.map fun x => x.e.born).toArray.contains x.e.born with
                | false => rfl
                | true => exact absurd (by simpa using hc) hm
              rw [this]
              rfl
          have := Array.eq_empty_of_size_eq_zero h0
          rw [this] at hin
          simp at hin
      have hpm : (fds D).Perm (fds T) := ((perm_born hA.sub hA.bd HT.out.bd hall).filter _).map _
      have hlen := fds_le hA.sub hA.bd
      have hrow := hA.row
      have HFR := hide hA.fr
      have HPM := hide hpm
      clear hall hpm hold hmapL hseen TA h0 hA
      obtain ⟨-, ⟨hu, hn0⟩ | ⟨g, cap, cur, hu, hg, hb, h3, h4, h5, h6⟩⟩ := hrow
      · have HL : Hid (fds D = []) := List.eq_nil_of_length_eq_zero hn0
        have K7 := hide (fun W fv => sort_none W none 0 fv)
        subst hu
        clear hn0
        go_wp2_with (first
          | (go_at_call 28; refine (K7.out _ _).mono ?_; rintro e7 w7 ⟨rfl, rfl⟩))
        go_ret
        refine ⟨none, 0, [], rfl, .inl rfl, ?_, List.Pairwise.nil, HFR.out, by simp⟩
        have := HPM.out
        rw [HL.out] at this
        exact this
      · have hH := holds_of_row hb h6
        have hsz : ((fds D).map some).toArray.size < 4611686018427387904 := by simp; omega
        have K7 := sort_some wr g 0 cap ((fds D).map some).toArray hH (lt_of_block hb) hsz
        rw [show ((fds D).map some).toArray.size = (fds D).length by simp] at K7
        have HK7 := hide K7
        have hgl : Hid (w.heap.size < g) := by unfold Hid; omega
        subst hu
        clear hH hsz K7 hb h6 h5 h4 h3 hg
        go_wp2_with (first
          | (go_at_call 28; refine HK7.out.mono ?_; rintro e7 w7 ⟨rfl, d', hp7, hs7, hh7, F7⟩; have HP7 := hide hp7; have HS7 := hide hs7; have HH7 := hide hh7; have HF7 := hide F7; clear hp7 hs7 hh7 F7))
        go_ret
        obtain ⟨q1, q2⟩ := perm_list (L := fds D) (d' := d') (by simpa using HP7.out)
        have q3 := pair_list q2 HS7.out
        have q4 := frow_of_holds HH7.out
        rw [q2] at q4
        have q5 : (d'.toList.map ob).length = (fds D).length := by simpa using q2
        refine ⟨some ⟨g, 0, none⟩, cap, d'.toList.map ob, by rw [q5]; rfl, by rw [q5]; exact q4, q1.trans HPM.out, q3, HFR.out.trans HF7.out (fun k hk e => by have := hgl.out; omega), by omega⟩
    · obtain ⟨hem, hens⟩ := mem_left he
      have hsh := left_shrinks _ _ _ he
      obtain ⟨x, hx, rfl⟩ : ∃ x ∈ T, x.e.en = e := by
        rw [hmapL] at hem
        obtain ⟨y, hy, rfl⟩ := List.mem_map.1 hem
        obtain ⟨z, hz, rfl⟩ := List.mem_map.1 hy
        exact ⟨z, hz, rfl⟩
      have hnb : x.e.born ∉ D.map fun x => x.e.born := by
        intro hm
        have : (D.map fun x => x.e.born).toArray.contains x.e.born = true := by simpa using hm
        rw [show x.e.en.born = x.e.born from rfl] at hens
        rw [this] at hens
        cases hens
      obtain ⟨W2, hW2⟩ : ∃ W2, W2 = setBlock w1 w.heap.size (.mapIter (some r) clock ((D.map fun x => x.e.born).toArray.push x.e.en.born) clock) := ⟨_, rfl⟩
      have hw1 : w1.heap = wr.heap := by rcases hal with rfl | rfl <;> rfl
      have hw1F : Fr (fun _ => False) wr w1 := by
        rcases hal with rfl | rfl
        · exact Fr.refl _ _
        · exact (Fr.refl _ _).drew
      have hit1 : w1.heap[w.heap.size]? = some (.mapIter (some r) clock (D.map fun x => x.e.born).toArray clock) := by rw [hw1]; exact hA.it
      have hit2 : W2.heap[w.heap.size]? = some (.mapIter (some r) clock ((D.map fun x => x.e.born).toArray.push x.e.born) clock) := by rw [hW2]; exact sb_same hit1 _
      have hF2 : Fr (fun k => k = w.heap.size) wr W2 := by
        refine ⟨?_, ?_, ?_, ?_, ?_⟩
        · rw [hW2]; exact hw1F.os
        · rw [hW2]; exact hw1F.tape
        · rw [hW2]; exact hw1F.output
        · rw [hW2]; simp [setBlock, hw1]
        · intro k hk hn
          rw [hW2, sb_other _ hn, hw1]
      rw [← hW2] at hnx
      obtain ⟨s1, s2, s3, s4, s5⟩ := hA.step hx hnb hit2 hF2
      have TA2 := HT.out.same s5
      have hen := run_entry_at (P := Try.prog) W2 w.heap.size r clock _ _ clock x.e.en hit2 TA2.mp hem (by
        rw [hmapL]
        have := HT.out.bd
        simpa [PE.en, Function.comp_def] using this)
      have hp := TA2.pl x hx
      have HP : Hid (PB W2 x.e.a (.int .i64 x.e.p) (.int .i64 x.e.c) (.int .i64 x.m) (.int .i64 x.k) (.int .i64 x.n)) := hide hp
      have K1 := hide (saw_any W2 x.e.a x.e.p x.e.c x.m x.k x.n HP.out)
      have HS : Hid (x.saw = !decide (x.m = 0 ∧ x.k = -1)) := rfl
      have hlen := fds_le s1 s2
      have H1 := hide s1
      have H2 := hide s2
      have H3 := hide s3
      have H4 := hide s4
      have H5 := hide s5
      have HSH := hide hsh
      have HSE := hide hseen
      clear TA TA2 hp s1 s2 s3 s4 s5 hsh hseen hit1 hit2 hw1 hw1F hW2 hF2 he hem hens hal hold hA hmapL hnb hx
      unfold PE.en kV at hnx hen
      simp only at hnx hen
      cases hsw : x.saw with
      | false =>
        have HN : Hid ((!decide (x.m = 0 ∧ x.k = -1)) = false) := by unfold Hid; rw [← HS.out, hsw]
        clear HS
        go_wp2_with (first | (go_at_call 27; refine K1.out.mono ?_; rintro e3 w3 ⟨rfl, F3⟩; rw [HN.out]; have HF3 := hide F3; clear F3))
        refine ⟨⟨D ++ [x], ⟨H1.out, H2.out, (HF3.out.block _ (lt_of_block H3.out) (fun e => e)).trans H3.out, ?_, H5.out.trans HF3.out (fun _ _ e => e)⟩⟩, ?_⟩
        · rw [fds_no hsw]
          exact ownsRow_fr H4.out HF3.out (fun _ _ e => e)
        · have e3 : w3.iterSeen w.heap.size = ((D ++ [x]).map fun x => x.e.born).toArray := by unfold World.iterSeen; rw [(HF3.out.block _ (lt_of_block H3.out) (fun e => e)).trans H3.out]
          rw [e3, HSE.out]
          have := HSH.out
          rw [seen_push] at this
          exact this
      | true =>
        have HN : Hid ((!decide (x.m = 0 ∧ x.k = -1)) = true) := by unfold Hid; rw [← HS.out, hsw]
        clear HS
        have hl2 : (fds D).length + 1 ≤ T.length := by rw [fds_yes hsw] at hlen; simpa using hlen
        go_wp2_with (first
          | (go_at_call 27; refine K1.out.mono ?_; rintro e3 w3 ⟨rfl, F3⟩; rw [HN.out]; have HF3 := hide F3; have b3 : PB w3 x.e.a _ _ _ _ _ := (F3.block _ (lt_of_block HP.out) (fun e => e)).trans HP.out; have y0 := b3.k0; have y1 := b3.k1; have y2 := b3.k2; have y3 := b3.k3; have HR3 := hide (ownsRow_fr (H4.out) F3 (fun _ _ e => e)); clear F3 b3)
          | (at_builtin; refine wpList_append_own _ rfl _ _ 26 rfl (w.heap.size + 1) 37 i (.agg #[.int .i64 0, .int .i64 0, .int .i64 0, .int .i64 0]) 4 32 Try.underlying26 hi hz0 hz1 hz2 rfl (by decide) _ _ _ rfl (ownsRow_fr HR3.out ((Fr.refl _ _).alloc _) (fun _ _ e => e)) ⟨w3.heap.size, 0, none⟩ 1 1 (encF x.fd) rfl rfl (enc_cells (f := x.fd) (heap_alloc_new w3 _)) (fun u hu => rowV_one [x.fd] u (by simpa [rowV] using hu)) (by unfold maxLen; omega) (by omega) (by have q1 := lt_of_block H3.out; have q2 := HF3.out.size; rw [World.size_alloc]; omega) ?_; intro v' w5 hown hgrow hnil; have HO5 := hide hown; have HG5 := hide hgrow; clear hown hgrow hnil))
        have hb5 : ∀ k, k < w.heap.size + 1 → some k ≠ u3.ownBlock := fun k hk e => by have := ownsRow_ob HR3.out e.symm; omega
        have F35 : Fr (fun _ => False) w w5 := ((H5.out.trans HF3.out (fun _ _ e => e)).alloc _).grow HG5.out (fun k hk e => hb5 k (by omega) e.symm)
        have it5 : w5.heap[w.heap.size]? = some (.mapIter (some r) clock ((D ++ [x]).map fun x => x.e.born).toArray clock) := by
          have q1 := (HF3.out.block _ (lt_of_block H3.out) (fun e => e)).trans H3.out
          have q2 := (heap_alloc_old w3 (.cells #[.int .i64 x.e.p, .int .i64 x.e.c, .int .i64 x.m, .int .i64 x.k] 37) (lt_of_block q1)).trans q1
          exact (HG5.out.block _ (lt_of_block q2) (hb5 _ (by omega))).trans q2
        refine ⟨⟨D ++ [x], ⟨H1.out, H2.out, it5, ?_, F35⟩⟩, ?_⟩
        · rw [fds_yes hsw, rowV_snoc]
          have := HO5.out
          simpa using this
        · have e3 : w5.iterSeen w.heap.size = ((D ++ [x]).map fun x => x.e.born).toArray := by unfold World.iterSeen; rw [it5]
          rw [e3, HSE.out]
          have := HSH.out
          rw [seen_push] at this
          exact this

end Go.Proofs.Ytcefeclgehijpaa
