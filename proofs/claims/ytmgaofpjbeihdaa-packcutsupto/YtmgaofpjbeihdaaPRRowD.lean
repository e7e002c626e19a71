/-
  What is proved here: the reader's rows of data (package pack), given datum.
-/
import Derived.Test.YtmgaofpjbeihdaaPRSuf
namespace Go.Proofs.Ytmgaofpjbeihdaa
open Go Go.RowKit

theorem FR.pushAt {E : TypeId} {w : World} {g N o : Nat} {cs : List Value} (h : FR E w g N cs) (x : Value) (ho : cs.length = o) (hl : o < N) : FR E (w.setCell ⟨g, o, none⟩ x) g N (cs ++ [x]) := by
  subst ho
  exact h.push x hl
theorem wpList_mkD {w : World} {ops : Array Oper} {rest : List Oper} {o : Oper} {a : Act} {Q : Exit → Act → World → Prop}
    (hg : o.guard = none) (l c : Operand) (hop : o.op = Op.makeSlice 45 l c)
    (kl kc : IntKind) (L C : Int) (n : Nat) (hl : a.eval l = .int kl L) (hc : a.eval c = .int kc C) (hL : L = (n : Int)) (hC : C = (n : Int)) (b2 : 112 * n ≤ 281474976710656)
    (hK : ∀ w', FR 64 w' w.heap.size (n * 7) [] → Fr (fun _ => False) w w' → w.heap.size < w'.heap.size → wpList Try.prog ops Q rest (a.put o.dst (.slice (some ⟨w.heap.size, 0, none⟩) n n)) w') :
    wpList Try.prog ops Q (o :: rest) a w := by
  obtain ⟨i, hi, hz0, hz1, hz2⟩ := info_parts infoD
  refine wpList_make_full w hg l c 45 hop w.heap.size 64 i _ 7 Try.underlying45 hi hz0 hz1 kl kc L C n hl hc hL hC (by rw [hz2]; exact b2) (by unfold maxLen; omega) (Nat.le_refl _) ?_
  intro w' hown hgrow
  have hR : FR 64 w' w.heap.size (n * 7) [] := by
    rcases hown.2 with ⟨e, _⟩ | ⟨g, cap, cur, e, h1, h2, h3, h4, h5, h6⟩
    · cases e
    · cases e
      exact ⟨cur, h2, h5, rfl⟩
  exact hK w' hR ((Fr.refl _ w).grow hgrow (fun k _ e => by cases e)) hR.lt
/-- A row of data that is being filled. -/
structure RD7 {h : Nat} (w : World) (g N : Nat) (ys : List (Tr h)) (cs : List Value) : Prop where
  fr : FR 64 w g N cs
  len : cs.length = ys.length * 7
  it : ∀ j (hj : j < ys.length), DatQ (fun b => g < b) w h ys[j] (seven cs j)
theorem RD7.keep {h : Nat} {w w' : World} {g N rb : Nat} {ys : List (Tr h)} {cs : List Value} (H : RD7 w g N ys cs) (F : Fr (fun j => j = rb) w w') (hrb : rb < g) : RD7 w' g N ys cs :=
  ⟨H.fr.fr F (by omega), H.len, fun j hj => (H.it j hj).keep (fun k hk hq => F.block k hk (by omega)) (fun _ _ hq => hq)⟩
theorem RD7.next {h : Nat} {w w' : World} {g N : Nat} {ys : List (Tr h)} {cs : List Value} {y : Tr h} {c0 c1 c2 c3 c4 c5 c6 : Value} (H : RD7 w g N ys cs) (hw : ∀ k, g < k → w'.heap[k]? = w.heap[k]?) (hf : FR 64 w' g N (cs ++ [c0, c1, c2, c3, c4, c5, c6])) (hy : DatQ (fun b => g < b) w h y [c0, c1, c2, c3, c4, c5, c6]) : RD7 w' g N (ys ++ [y]) (cs ++ [c0, c1, c2, c3, c4, c5, c6]) := by
  refine ⟨hf, by simp [H.len]; omega, fun j hj => ?_⟩
  by_cases e : j = ys.length
  · subst e
    rw [seven_new H.len rfl, List.getElem_concat_length rfl]
    exact hy.keep (fun k _ hq => hw k hq) (fun _ _ hq => hq)
  · have hj' : j < ys.length := by simp at hj; omega
    rw [seven_old H.len hj', List.getElem_append_left hj']
    exact (H.it j hj').keep (fun k _ hq => hw k hq) (fun _ _ hq => hq)
theorem RD7.row {h : Nat} {w : World} {g : Nat} {ys : List (Tr h)} {cs : List Value} (H : RD7 w g (ys.length * 7) ys cs) (hn : ys.length ≤ 100000000) : RowD w (DatQ (fun b => g ≤ b) w h) (.slice (some ⟨g, 0, none⟩) ys.length ys.length) ys := by
  obtain ⟨cur, h1, h2, h3⟩ := H.fr
  refine ⟨_, _, rfl, Nat.le_refl _, by omega, .inr ⟨g, 0, rfl, fun i hi => ⟨seven cs i, ?_, fun j hj => ?_, (H.it i hi).keep (fun _ _ _ => rfl) (fun _ _ hq => by omega)⟩⟩⟩
  · unfold seven
    rw [List.length_take, List.length_drop, H.len]
    omega
  · rw [cell_of_row w g _ cur _ _ h1, ← Array.getElem?_toList, Nat.zero_add]
    unfold seven
    rw [List.getElem?_take, if_pos hj, List.getElem?_drop]
    have := congrArg (fun l : List Value => l[i * 7 + j]?) h3
    simp only [List.getElem?_take] at this
    rw [if_pos (by rw [H.len]; omega)] at this
    exact this
def okDs {h : Nat} (w0 : World) (rb B : Nat) (x : List (Tr h) × List Nat × Nat) (e : Ending) (w' : World) : Prop := ∃ v, e = .returned v ∧ RowD w' (DatQ (fun b => B ≤ b) w' h) v x.1 ∧ VQ (fun b => B ≤ b) v x.1.length ∧ RS w0 w' rb x.2.1 x.2.2
/-- Seven cells of a row are set. -/
def setN (w : World) (g o : Nat) (c0 c1 c2 c3 c4 c5 c6 : Value) : World := (((((((w).setCell ⟨g, o, none⟩ c0).setCell ⟨g, o + 1, none⟩ c1).setCell ⟨g, o + 2, none⟩ c2).setCell ⟨g, o + 3, none⟩ c3).setCell ⟨g, o + 4, none⟩ c4).setCell ⟨g, o + 5, none⟩ c5).setCell ⟨g, o + 6, none⟩ c6
theorem setN_fr {S : Nat → Prop} {w w' : World} {g : Nat} (F : Fr S w w') (hB : w.heap.size ≤ g) (o : Nat) (c0 c1 c2 c3 c4 c5 c6 : Value) : Fr S w (setN w' g o c0 c1 c2 c3 c4 c5 c6) :=
  ((((((F.setCell (fun e => by omega) _ _).setCell (fun e => by omega) _ _).setCell (fun e => by omega) _ _).setCell (fun e => by omega) _ _).setCell (fun e => by omega) _ _).setCell (fun e => by omega) _ _).setCell (fun e => by omega) _ _
theorem setN_rs {w0 w : World} {rb p g : Nat} {l : List Nat} (h : RS w0 w rb l p) (hB : rb < g) (o : Nat) (c0 c1 c2 c3 c4 c5 c6 : Value) : RS w0 (setN w g o c0 c1 c2 c3 c4 c5 c6) rb l p := ((((((h.setO hB).setO hB).setO hB).setO hB).setO hB).setO hB).setO hB
theorem setN_other {w : World} {g k : Nat} (hk : k ≠ g) (o : Nat) (c0 c1 c2 c3 c4 c5 c6 : Value) : (setN w g o c0 c1 c2 c3 c4 c5 c6).heap[k]? = w.heap[k]? := by
  unfold setN
  rw [heap_setCell_other _ _ _ _ hk, heap_setCell_other _ _ _ _ hk, heap_setCell_other _ _ _ _ hk, heap_setCell_other _ _ _ _ hk, heap_setCell_other _ _ _ _ hk, heap_setCell_other _ _ _ _ hk, heap_setCell_other _ _ _ _ hk]

set_option maxRecDepth 20000 in
set_option maxHeartbeats 4000000 in
theorem rowD_any {h : Nat} (hC : DOK h) (w0 w : World) (rb p n dp b2 b3 : Nat) (l : List Nat) (hr : RS w0 w rb l p) (h8 : By8 l) (hl : l.length ≤ 100000000) (hp : p ≤ 20000) (hd : dp ≤ 100) (hh : dp ≤ h) (hb : BX w b2 b3 rb dp) (hn : n ≤ 100000000) :
    Calls Try.prog 75 #[.int .i64 (n : Int), .func (.func 76) #[] #[.pointer (some ⟨b2, 0, none⟩), .pointer (some ⟨b3, 0, none⟩)]] w fun e w' => RQ w rb (okDs w0 rb w.heap.size) (rdRowP (rdDat h dp) n l p) e w' := by
  obtain ⟨out, hout⟩ : ∃ o, o = rdRowP (rdDat h dp) n l p := ⟨_, rfl⟩
  rw [← hout]
  by_cases h0 : n = 0
  · subst h0
    have HO : Hid (out = some ([], l, p)) := hout
    have HRS := hide hr
    clear hr hout
    go_enter Try.func75, Try.ntmps75
    go_wp2
    go_ret
    exact RQ.mk' HO.out (Fr.refl _ _) ⟨_, rfl, ⟨none, 0, rfl, Nat.le_refl _, by decide, .inl rfl⟩, .inl rfl, HRS.out⟩
  · have g0 : ((n : Int) == 0) = false := by rw [beq_eq_false_iff_ne]; omega
    have HRS := hide hr
    have HOUT := hide hout
    have H8 := hide h8
    have HC := hide hC
    have HBX := hide hb
    have hrbl : rb < w.heap.size := hr.lt
    clear hr hout h8 hC hb
    go_enter Try.func75, Try.ntmps75
    go_wp2_with (at_make; refine wpList_mkD rfl _ _ rfl .i64 .i64 _ _ n rfl rfl rfl rfl (by omega) ?_; intro w1 R1 F1 hlt1; have HR1 := hide R1; have HF1 := hide F1; clear R1 F1)
    go_loopw [13] (fun c wr => ∃ (i : Nat) (xs : List (Tr h)) (cs : List Value) (m : List Nat) (q : Nat), i ≤ n ∧ c = .int .i64 (i : Int) ∧ xs.length = i ∧ RS w0 wr rb m q ∧ Fr (fun j => j = rb) w wr ∧ By8 m ∧ m.length ≤ 100000000 ∧ q ≤ 20000 ∧ RD7 wr w.heap.size (n * 7) xs cs ∧ out = moreP xs (rdRowP (rdDat h dp) (n - i) m q)) (fun c _ => n - (intOf c).toNat)
    case atStart => exact ⟨0, [], [], l, p, Nat.zero_le _, rfl, rfl, HRS.out.mono HF1.out.upw2, HF1.out.mono (fun _ _ e => e.elim), H8.out, hl, hp, ⟨HR1.out, rfl, fun j hj => by cases hj⟩, by rw [moreP_nil]; exact HOUT.out⟩
    case round =>
      clear HRS HOUT H8 HR1 HF1
      obtain ⟨i, xs, cs, m, q, hi, rfl, hxl, hrs, hF, hm8, hml, hq, hR, ho⟩ := hrel
      by_cases hil : i < n
      · have hiI : (i : Int) < (n : Int) := by omega
        rw [show n - i = (n - (i + 1)) + 1 by omega] at ho
        have HFF := hide hF
        have HR := hide hR
        have hbx := HBX.out.fr hF
        cases hx : rdDat h dp m q with
        | none =>
          have K := hide (data1_no HC.out w0 wr rb q dp b2 b3 m hrs hm8 hml hq hd hh hbx hx)
          have HO : Hid (out = none) := ho.trans (moreP_no hx)
          clear hrs hF hR ho hx hbx
          go_wp2_with (go_at_call 76; refine K.out.mono ?_; rintro e2 w2 ⟨rfl, F2⟩; have HF2 := hide (HFF.out.trans F2 (fun _ _ e => e)); clear F2)
          exact ⟨rfl, RQ.mkno HO.out HF2.out⟩
        | some y =>
          obtain ⟨x, m2, q2⟩ := y
          have K := hide (data1_yes HC.out w0 wr rb q dp b2 b3 m hrs hm8 hml hq hd hh hbx (x, m2, q2) hx)
          have HO : Hid (out = moreP (xs ++ [x]) (rdRowP (rdDat h dp) (n - (i + 1)) m2 q2)) := ho.trans (moreP_yes hx)
          have hsf := rdDat_suf h dp _ _ _ _ _ hx
          have HM8 : Hid (By8 m2 ∧ m2.length ≤ 100000000 ∧ q2 ≤ 20000) := ⟨hm8.suf hsf.1, Nat.le_trans hsf.1.length_le hml, Nat.le_trans hsf.2 hq⟩
          have HCL : Hid (cs.length = i * 7) := by unfold Hid; rw [hR.len, hxl]
          have HSZ : Hid (w.heap.size < wr.heap.size) := hR.fr.lt
          clear hrs hF hR ho hx hbx hsf
          go_wp2_with (go_at_call 76; refine K.out.mono ?_; rintro e2 w2 ⟨⟨kk, nn, bb, m1, m2', m3, tt, i1, i2, i3, r1, r2, r3, rfl, hq2, hr2⟩, F2⟩; have HF2 := hide (HFF.out.trans F2 (fun _ _ e => e)); have R7 := HR.out.keep F2 hrbl; have R2 := R7.fr; have P0 := R2.pushAt (o := i * 7) (.int .i64 kk) (by simp [HCL.out]) (by omega); obtain ⟨u0, z0⟩ := R2.some (i := i * 7) (by omega); have t0 := R2.fz (i * 7); have P1 := P0.pushAt (o := i * 7 + 1) (.int .i64 nn) (by simp [HCL.out]) (by omega); obtain ⟨u1, z1⟩ := P0.some (i := i * 7 + 1) (by omega); have t1 := P0.fz (i * 7 + 1); have P2 := P1.pushAt (o := i * 7 + 2) (.bool bb) (by simp [HCL.out]) (by omega); obtain ⟨u2, z2⟩ := P1.some (i := i * 7 + 2) (by omega); have t2 := P1.fz (i * 7 + 2); have P3 := P2.pushAt (o := i * 7 + 3) (.slice m1 m2' m3) (by simp [HCL.out]) (by omega); obtain ⟨u3, z3⟩ := P2.some (i := i * 7 + 3) (by omega); have t3 := P2.fz (i * 7 + 3); have P4 := P3.pushAt (o := i * 7 + 4) (.string tt) (by simp [HCL.out]) (by omega); obtain ⟨u4, z4⟩ := P3.some (i := i * 7 + 4) (by omega); have t4 := P3.fz (i * 7 + 4); have P5 := P4.pushAt (o := i * 7 + 5) (.slice i1 i2 i3) (by simp [HCL.out]) (by omega); obtain ⟨u5, z5⟩ := P4.some (i := i * 7 + 5) (by omega); have t5 := P4.fz (i * 7 + 5); have P6 := P5.pushAt (o := i * 7 + 6) (.slice r1 r2 r3) (by simp [HCL.out]) (by omega); obtain ⟨u6, z6⟩ := P5.some (i := i * 7 + 6) (by omega); have t6 := P5.fz (i * 7 + 6); have HP6 := hide P6; have HR7 := hide R7; have HQ2 := hide hq2; have HRS2 := hide hr2; clear F2 hr2 hq2 R7 R2 P0 P1 P2 P3 P4 P5 P6)
          refine ⟨⟨i + 1, xs ++ [x], cs ++ [.int .i64 kk, .int .i64 nn, .bool bb, .slice m1 m2' m3, .string tt, .slice i1 i2 i3, .slice r1 r2 r3], m2, q2, hil, by go_num, by simp [hxl], setN_rs HRS2.out hrbl (i * 7) _ _ _ _ _ _ _, setN_fr HF2.out (Nat.le_refl _) (i * 7) _ _ _ _ _ _ _, HM8.out.1, HM8.out.2.1, HM8.out.2.2, ?_, HO.out⟩, by simp [intOf]; omega⟩
          refine HR7.out.next (fun k hk => setN_other (by omega) (i * 7) _ _ _ _ _ _ _) ?_ (HQ2.out.keep (fun _ _ _ => rfl) (fun k _ hq => by have := HSZ.out; omega))
          simpa using HP6.out
      · have e : i = n := by omega
        subst e
        have hil' : ¬ ((i : Int) < (i : Int)) := by omega
        rw [Nat.sub_self, rdRowP_zero] at ho
        have HO : Hid (out = some (xs, m, q)) := by
          unfold Hid
          rw [ho]
          simp [moreP]
        have HFF := hide hF
        have HRS := hide hrs
        have HRR : Hid (RowD wr (DatQ (fun b => w.heap.size ≤ b) wr h) (.slice (some ⟨w.heap.size, 0, none⟩) i i) xs) := by
          have := RD7.row (by rw [hxl]; exact hR) (by omega)
          rw [hxl] at this
          exact this
        clear hrs hF hR ho hil
        go_wp2
        go_ret
        exact RQ.mk' HO.out HFF.out ⟨_, rfl, HRR.out, .inr ⟨_, _, _, rfl, Nat.le_refl _⟩, HRS.out⟩

end Go.Proofs.Ytmgaofpjbeihdaa
