/-
  What is proved here: the reader's rows of protos (package pack). the reader's program (package pack). pack.Read: the program that bytes are, or that they are none.
-/
import Derived.Test.YtilcigjhogcjkaaPRPro
import Derived.Defers
import Derived.Recover
namespace Go.Proofs.Ytilcigjhogcjkaa
open Go Go.RowKit

theorem wpList_mkP {w : World} {ops : Array Oper} {rest : List Oper} {o : Oper} {a : Act} {Q : Exit → Act → World → Prop}
    (hg : o.guard = none) (l c : Operand) (hop : o.op = Op.makeSlice 22 l c)
    (kl kc : IntKind) (L C : Int) (n : Nat) (hl : a.eval l = .int kl L) (hc : a.eval c = .int kc C) (hL : L = (n : Int)) (hC : C = (n : Int)) (b2 : 112 * n ≤ 281474976710656)
    (hK : ∀ w', FR 48 w' w.heap.size (n * 7) [] → Fr (fun _ => False) w w' → w.heap.size < w'.heap.size → wpList Try.prog ops Q rest (a.put o.dst (.slice (some ⟨w.heap.size, 0, none⟩) n n)) w') :
    wpList Try.prog ops Q (o :: rest) a w := by
  obtain ⟨i, hi, hz0, hz1, hz2⟩ := info_parts infoPr
  refine wpList_make_full w hg l c 22 hop w.heap.size 48 i _ 7 Try.underlying22 hi hz0 hz1 kl kc L C n hl hc hL hC (by rw [hz2]; exact b2) (by unfold maxLen; omega) (Nat.le_refl _) ?_
  intro w' hown hgrow
  have hR : FR 48 w' w.heap.size (n * 7) [] := by
    rcases hown.2 with ⟨e, _⟩ | ⟨g, cap, cur, e, h1, h2, h3, h4, h5, h6⟩
    · cases e
    · cases e
      exact ⟨cur, h2, h5, rfl⟩
  exact hK w' hR ((Fr.refl _ w).grow hgrow (fun k _ e => by cases e)) hR.lt
/-- A row of protos that is being filled. -/
structure RP7 {h : Nat} (w : World) (g N : Nat) (ys : List (PC h)) (cs : List Value) : Prop where
  fr : FR 48 w g N cs
  len : cs.length = ys.length * 7
  it : ∀ j (hj : j < ys.length), PQ (fun b => g < b) w ys[j] (seven cs j)
theorem RP7.keep {h : Nat} {w w' : World} {g N rb : Nat} {ys : List (PC h)} {cs : List Value} (H : RP7 w g N ys cs) (F : Fr (fun j => j = rb) w w') (hrb : rb < g) : RP7 w' g N ys cs :=
  ⟨H.fr.fr F (by omega), H.len, fun j hj => (H.it j hj).keep (fun k hk hq => F.block k hk (by omega)) (fun _ _ hq => hq)⟩
theorem RP7.next {h : Nat} {w w' : World} {g N : Nat} {ys : List (PC h)} {cs : List Value} {y : PC h} {c0 c1 c2 c3 c4 c5 c6 : Value} (H : RP7 w g N ys cs) (hw : ∀ k, g < k → w'.heap[k]? = w.heap[k]?) (hf : FR 48 w' g N (cs ++ [c0, c1, c2, c3, c4, c5, c6])) (hy : PQ (fun b => g < b) w y [c0, c1, c2, c3, c4, c5, c6]) : RP7 w' g N (ys ++ [y]) (cs ++ [c0, c1, c2, c3, c4, c5, c6]) := by
  refine ⟨hf, by simp [H.len]; omega, fun j hj => ?_⟩
  by_cases e : j = ys.length
  · subst e
    rw [seven_new H.len rfl, List.getElem_concat_length rfl]
    exact hy.keep (fun k _ hq => hw k hq) (fun _ _ hq => hq)
  · have hj' : j < ys.length := by simp at hj; omega
    rw [seven_old H.len hj', List.getElem_append_left hj']
    exact (H.it j hj').keep (fun k _ hq => hw k hq) (fun _ _ hq => hq)
theorem RP7.row {h : Nat} {w : World} {g : Nat} {ys : List (PC h)} {cs : List Value} (H : RP7 w g (ys.length * 7) ys cs) (hn : ys.length ≤ 100000000) : RowD w (PQ (fun b => g ≤ b) w) (.slice (some ⟨g, 0, none⟩) ys.length ys.length) ys := by
  obtain ⟨cur, h1, h2, h3⟩ := H.fr
  refine ⟨_, _, rfl, Nat.le_refl _, by omega, .inr ⟨g, 0, rfl, fun i hi => ⟨seven cs i, ?_, fun j hj => ?_, (H.it i hi).keep (fun _ _ _ => rfl) (fun _ _ hq => by omega)⟩⟩⟩
  · unfold seven
    rw [List.length_take, List.length_drop, H.len]
    omega
  · rw [cell_of_row w g _ cur _ _ h1, ← Array.getElem?_toList, Nat.zero_add]
    unfold seven
    rw [List.getElem?_take, if_pos hj, List.getElem?_drop]
    have := congrArg (fun l : List Value => l[i * 7 + j]?) h3
    simp only [List.getElem?_take] at this
    rw [if_pos (by rw [H.len]; omega)] at this
    exact this
def okPs {h : Nat} (w0 : World) (rb B : Nat) (x : List (PC h) × List Nat × Nat) (e : Ending) (w' : World) : Prop := ∃ ao, e = .returned (.slice ao x.1.length x.1.length) ∧ RowD w' (PQ (fun b => B ≤ b) w') (.slice ao x.1.length x.1.length) x.1 ∧ VQ (fun b => B ≤ b) (.slice ao x.1.length x.1.length) x.1.length ∧ RS w0 w' rb x.2.1 x.2.2
theorem rdPro_suf (h : Nat) : Suf (rdPro h) := fun l p x m q hx => by
  unfold rdPro at hx
  split at hx
  · cases hx
  rename_i h1
  split at hx
  · cases hx
  rename_i h2
  split at hx
  · cases hx
  rename_i h3
  split at hx
  · cases hx
  rename_i h4
  split at hx
  · cases hx
  rename_i h5
  split at hx
  · cases hx
  rename_i h6
  split at hx
  · cases hx
  rename_i h7
  split at hx
  · cases hx
  rename_i h8
  split at hx
  · cases hx
  rename_i h9
  cases hx
  have a := rdDta_suf (rdDat_suf h 100) _ _ _ _ _ h7
  exact ⟨(rdRow_suf (fun _ _ _ hh => rdTxt_suf hh) _ _ _ _ h9).trans ((rdCnt_len h8).2.2.trans (a.1.trans ((rdRow_suf (fun _ _ _ hh => (rdIns_suf hh).2) _ _ _ _ h6).trans ((rdCnt_len h5).2.2.trans ((rdG_suf _ _ _ _ _ _ h4).2.1.trans ((rdFlag_len h3).2.trans ((rdG_suf _ _ _ _ _ _ h2).2.1.trans (rdTxt_suf h1)))))))), a.2⟩

set_option maxRecDepth 20000 in
set_option maxHeartbeats 4000000 in
theorem rowP_any {h : Nat} (hN : 100 ≤ h) (w0 w : World) (rb p n : Nat) (l : List Nat) (hr : RS w0 w rb l p) (h8 : By8 l) (hl : l.length ≤ 100000000) (hp : p ≤ 20000) (hn : n ≤ 100000000) :
    Calls Try.prog 48 #[.int .i64 (n : Int), .func (.func 50) #[.pointer (some ⟨rb, 0, none⟩)] #[]] w fun e w' => RQ w rb (okPs (h := h) w0 rb w.heap.size) (rdRowP (rdPro h) n l p) e w' := by
  obtain ⟨out, hout⟩ : ∃ o, o = rdRowP (rdPro h) n l p := ⟨_, rfl⟩
  rw [← hout]
  by_cases h0 : n = 0
  · subst h0
    have HO : Hid (out = some ([], l, p)) := hout
    have HRS := hide hr
    clear hr hout
    go_enter Try.func48, Try.ntmps48
    go_wp2
    go_ret
    exact RQ.mk' HO.out (Fr.refl _ _) ⟨none, rfl, ⟨none, 0, rfl, Nat.le_refl _, by decide, .inl rfl⟩, .inl rfl, HRS.out⟩
  · have g0 : ((n : Int) == 0) = false := by rw [beq_eq_false_iff_ne]; omega
    have HRS := hide hr
    have HOUT := hide hout
    have H8 := hide h8
    have hrbl : rb < w.heap.size := hr.lt
    clear hr hout h8
    go_enter Try.func48, Try.ntmps48
    go_wp2_with (at_make; refine wpList_mkP rfl _ _ rfl .i64 .i64 _ _ n rfl rfl rfl rfl (by omega) ?_; intro w1 R1 F1 hlt1; have HR1 := hide R1; have HF1 := hide F1; clear R1 F1)
    go_loopw [13] (fun c wr => ∃ (i : Nat) (xs : List (PC h)) (cs : List Value) (m : List Nat) (q : Nat), i ≤ n ∧ c = .int .i64 (i : Int) ∧ xs.length = i ∧ RS w0 wr rb m q ∧ Fr (fun j => j = rb) w wr ∧ By8 m ∧ m.length ≤ 100000000 ∧ q ≤ 20000 ∧ RP7 wr w.heap.size (n * 7) xs cs ∧ out = moreP xs (rdRowP (rdPro h) (n - i) m q)) (fun c _ => n - (intOf c).toNat)
    case atStart => exact ⟨0, [], [], l, p, Nat.zero_le _, rfl, rfl, HRS.out.mono HF1.out.upw2, HF1.out.mono (fun _ _ e => e.elim), H8.out, hl, hp, ⟨HR1.out, rfl, fun j hj => by cases hj⟩, by rw [moreP_nil]; exact HOUT.out⟩
    case round =>
      clear HRS HOUT H8 HR1 HF1
      obtain ⟨i, xs, cs, m, q, hi, rfl, hxl, hrs, hF, hm8, hml, hq, hR, ho⟩ := hrel
      by_cases hil : i < n
      · have hiI : (i : Int) < (n : Int) := by omega
        rw [show n - i = (n - (i + 1)) + 1 by omega] at ho
        have HFF := hide hF
        have HR := hide hR
        cases hx : rdPro h m q with
        | none =>
          have K := hide ((proto_any hN w0 wr rb q m hrs hm8 hml hq).mono (fun _ _ z => z.no hx))
          have HO : Hid (out = none) := ho.trans (moreP_no hx)
          clear hrs hF hR ho hx
          go_wp2_with (go_at_call 50; refine K.out.mono ?_; rintro e2 w2 ⟨rfl, F2⟩; have HF2 := hide (HFF.out.trans F2 (fun _ _ e => e)); clear F2)
          exact ⟨rfl, RQ.mkno HO.out HF2.out⟩
        | some y =>
          obtain ⟨x, m2, q2⟩ := y
          have K := hide ((proto_any hN w0 wr rb q m hrs hm8 hml hq).mono (fun _ _ z => z.yes hx))
          have HO : Hid (out = moreP (xs ++ [x]) (rdRowP (rdPro h) (n - (i + 1)) m2 q2)) := ho.trans (moreP_yes hx)
          have hsf := rdPro_suf h _ _ _ _ _ hx
          have HM8 : Hid (By8 m2 ∧ m2.length ≤ 100000000 ∧ q2 ≤ 20000) := ⟨hm8.suf hsf.1, Nat.le_trans hsf.1.length_le hml, Nat.le_trans hsf.2 hq⟩
          have HCL : Hid (cs.length = i * 7) := by unfold Hid; rw [hR.len, hxl]
          have HSZ : Hid (w.heap.size < wr.heap.size) := hR.fr.lt
          clear hrs hF hR ho hx hsf
          go_wp2_with (go_at_call 50; refine K.out.mono ?_; rintro e2 w2 ⟨⟨co, cc, ka, kc, na, nc, rfl, hq2, hr2⟩, F2⟩; have HF2 := hide (HFF.out.trans F2 (fun _ _ e => e)); have R7 := HR.out.keep F2 hrbl; have R2 := R7.fr; have P0 := R2.pushAt (o := i * 7) (.string x.nm) (by simp [HCL.out]) (by omega); obtain ⟨u0, z0⟩ := R2.some (i := i * 7) (by omega); have t0 := R2.fz (i * 7); have P1 := P0.pushAt (o := i * 7 + 1) (.int .i64 x.args) (by simp [HCL.out]) (by omega); obtain ⟨u1, z1⟩ := P0.some (i := i * 7 + 1) (by omega); have t1 := P0.fz (i * 7 + 1); have P2 := P1.pushAt (o := i * 7 + 2) (.int .i64 x.free) (by simp [HCL.out]) (by omega); obtain ⟨u2, z2⟩ := P1.some (i := i * 7 + 2) (by omega); have t2 := P1.fz (i * 7 + 2); have P3 := P2.pushAt (o := i * 7 + 3) (.bool x.rest) (by simp [HCL.out]) (by omega); obtain ⟨u3, z3⟩ := P2.some (i := i * 7 + 3) (by omega); have t3 := P2.fz (i * 7 + 3); have P4 := P3.pushAt (o := i * 7 + 4) (.slice co x.code.length cc) (by simp [HCL.out]) (by omega); obtain ⟨u4, z4⟩ := P3.some (i := i * 7 + 4) (by omega); have t4 := P3.fz (i * 7 + 4); have P5 := P4.pushAt (o := i * 7 + 5) (.slice ka x.ks.length kc) (by simp [HCL.out]) (by omega); obtain ⟨u5, z5⟩ := P4.some (i := i * 7 + 5) (by omega); have t5 := P4.fz (i * 7 + 5); have P6 := P5.pushAt (o := i * 7 + 6) (.slice na x.ns.length nc) (by simp [HCL.out]) (by omega); obtain ⟨u6, z6⟩ := P5.some (i := i * 7 + 6) (by omega); have t6 := P5.fz (i * 7 + 6); have HP6 := hide P6; have HR7 := hide R7; have HQ2 := hide hq2; have HRS2 := hide hr2; clear F2 hr2 hq2 R7 R2 P0 P1 P2 P3 P4 P5 P6)
          refine ⟨⟨i + 1, xs ++ [x], cs ++ [.string x.nm, .int .i64 x.args, .int .i64 x.free, .bool x.rest, .slice co x.code.length cc, .slice ka x.ks.length kc, .slice na x.ns.length nc], m2, q2, hil, by go_num, by simp [hxl], setN_rs HRS2.out hrbl (i * 7) _ _ _ _ _ _ _, setN_fr HF2.out (Nat.le_refl _) (i * 7) _ _ _ _ _ _ _, HM8.out.1, HM8.out.2.1, HM8.out.2.2, ?_, HO.out⟩, by simp [intOf]; omega⟩
          refine HR7.out.next (fun k hk => setN_other (by omega) (i * 7) _ _ _ _ _ _ _) ?_ (HQ2.out.keep (fun _ _ _ => rfl) (fun k _ hq => by have := HSZ.out; omega))
          simpa using HP6.out
      · have e : i = n := by omega
        subst e
        have hil' : ¬ ((i : Int) < (i : Int)) := by omega
        rw [Nat.sub_self, rdRowP_zero] at ho
        have HO : Hid (out = some (xs, m, q)) := by
          unfold Hid
          rw [ho]
          simp [moreP]
        have HFF := hide hF
        have HRS := hide hrs
        have HRR : Hid (RowD wr (PQ (fun b => w.heap.size ≤ b) wr) (.slice (some ⟨w.heap.size, 0, none⟩) i i) xs) := by
          have := RP7.row (by rw [hxl]; exact hR) (by omega)
          rw [hxl] at this
          exact this
        have HXL := hide hxl
        clear hrs hF hR ho hil hxl
        go_wp2
        go_ret
        refine RQ.mk' HO.out HFF.out ?_
        have h := HRR.out
        rw [← HXL.out] at h
        exact ⟨_, by rw [← HXL.out]; rfl, h, .inr ⟨_, _, _, rfl, Nat.le_refl _⟩, HRS.out⟩

def rdPrg (h : Nat) (l : List Nat) (p : Nat) : Option (List (PC h)) := if l.take 4 = [84, 65, 78, 68] then (match rdCnt 7 (l.drop 4) with
  | none => none
  | some (n, m) => match rdRowP (rdPro h) n m p with
    | none => none
    | some (ps, k, _) => if k = [] then some ps else none) else none
def okG {h : Nat} (B : Nat) (x : List (PC h)) (e : Ending) (w' : World) : Prop := ∃ ao, e = .returned (.slice ao x.length x.length) ∧ RowD w' (PQ (fun b => B ≤ b) w') (.slice ao x.length x.length) x ∧ VQ (fun b => B ≤ b) (.slice ao x.length x.length) x.length
theorem strL_head {l : List Nat} (h8 : By8 l) : ((strL l).toList == [84, 65, 78, 68]) = decide (l = [84, 65, 78, 68]) := by
  have hk : ∀ l : List Nat, By8 l → (l.map fun n => UInt8.ofNat n).map UInt8.toNat = l := fun l hl => by
    rw [List.map_map]
    conv => rhs; rw [← List.map_id l]
    refine List.map_congr_left (fun x hx => ?_)
    have := hl x hx
    simp [UInt8.toNat_ofNat', Nat.mod_eq_of_lt this]
  have hsl : (strL l).toList = l.map fun n => UInt8.ofNat n := by
    rw [ByteArray.toList_eq]
    unfold strL
    rw [strOfNums_data, List.map_map]
    rfl
  rw [hsl, Bool.eq_iff_iff, beq_iff_eq, decide_eq_true_eq]
  refine ⟨fun h => ?_, fun h => by subst h; rfl⟩
  rw [← hk l h8, h]
  rfl

set_option maxRecDepth 20000 in
set_option maxHeartbeats 4000000 in
theorem program_any {h : Nat} (hN : 100 ≤ h) (w0 w : World) (rb : Nat) (l : List Nat) (hr : RS w0 w rb l 20000) (h8 : By8 l) (hl : l.length ≤ 100000000) :
    Calls Try.prog 28 #[.pointer (some ⟨rb, 0, none⟩)] w fun e w' => RQ w rb (okG (h := h) w.heap.size) (rdPrg h l 20000) e w' := by
  obtain ⟨out, hout⟩ : ∃ o, o = rdPrg h l 20000 := ⟨_, rfl⟩
  rw [← hout]
  have hmf : ∀ (fn : Fn) (first cap : Array Value) (w : World), (Instr.makeFunc fn first cap).run Try.prog w = .ok (.func fn first cap) w := fun _ _ _ _ => rfl
  have HMY := hide (fun (W : World) => must_yes W)
  have HMN := hide (fun (W : World) => must_no W)
  by_cases h4 : 4 ≤ l.length
  · have K1 := hide (rtake_yes w0 w rb 20000 4 l hr h4)
    have h84 : By8 (l.take 4) := fun x hx => h8 x (List.mem_of_mem_take hx)
    have hhd := strL_head h84
    by_cases hh : l.take 4 = [84, 65, 78, 68]
    · rw [decide_eq_true hh] at hhd
      have HO1 : out = (match rdCnt 7 (l.drop 4) with | none => none | some (n, m) => match rdRowP (rdPro h) n m 20000 with | none => none | some (ps, k, _) => if k = [] then some ps else none) := by rw [hout]; unfold rdPrg; rw [if_pos hh]
      have h8d : By8 (l.drop 4) := h8.suf (List.drop_suffix _ _)
      have hdl : (l.drop 4).length ≤ 100000000 := by rw [List.length_drop]; omega
      cases h1 : rdCnt 7 (l.drop 4) with
      | none =>
        have K2 := hide (fun (W : World) (h' : RS w0 W rb (l.drop 4) 20000) => (rdcnt_any w0 W rb 20000 7 (l.drop 4) h' h8d (by decide) (by decide)).mono (fun _ _ q => q.no h1))
        have HO : Hid (out = none) := by unfold Hid; rw [HO1, h1]
        clear HO1 hr hout h8 h84 hh h1 h8d
        go_enter Try.func28, Try.ntmps28
        go_wp2_with (first
          | (go_at_call 47; refine K1.out.mono ?_; rintro e1 w1 ⟨v1, rfl, hb1, hr1, F1⟩; have k1 := hb1.conv hr1.1; have HR1 := hide hr1; have HF1 := hide F1; clear hb1 hr1 F1)
          | (go_at_call 49; refine (K2.out _ HR1.out).mono ?_; rintro e2 w2 ⟨rfl, F2⟩; have HF2 := hide (HF1.out.trans F2 (fun _ _ e => e)); clear F2)
          | (go_at_call_of 46 (Value.bool true); refine (HMY.out _).mono ?_; rintro e9 w9 ⟨rfl, hw⟩; replace hw := hw.symm; subst hw))
        exact ⟨rfl, RQ.mkno HO.out HF2.out⟩
      | some y =>
        obtain ⟨n, m⟩ := y
        obtain ⟨hl1, hn1, hs1⟩ := rdCnt_len h1
        have h8m := h8d.suf hs1
        have hn2 := Nat.div_le_self m.length 7
        have K2 := hide (fun (W : World) (h' : RS w0 W rb (l.drop 4) 20000) => (rdcnt_any w0 W rb 20000 7 (l.drop 4) h' h8d (by decide) (by decide)).mono (fun _ _ q => q.yes h1))
        cases h2 : rdRowP (rdPro h) n m 20000 with
        | none =>
          have K3 := hide (fun (W : World) (h' : RS w0 W rb m 20000) => (rowP_any hN w0 W rb 20000 n m h' h8m (by omega) (by decide) (by omega)).mono (fun _ _ q => q.no h2))
          have HO : Hid (out = none) := by unfold Hid; rw [HO1, h1]; simp only [h2]
          clear HO1 hr hout h8 h84 hh h1 h2 h8d h8m hs1
          go_enter Try.func28, Try.ntmps28
          go_wp2_with (first
            | (go_at_call 47; refine K1.out.mono ?_; rintro e1 w1 ⟨v1, rfl, hb1, hr1, F1⟩; have k1 := hb1.conv hr1.1; have HR1 := hide hr1; have HF1 := hide F1; clear hb1 hr1 F1)
            | (go_at_call 49; refine (K2.out _ HR1.out).mono ?_; rintro e2 w2 ⟨⟨rfl, hr2⟩, F2⟩; have HR2 := hide hr2; have HF2 := hide (HF1.out.trans F2 (fun _ _ e => e)); clear F2 hr2)
            | (go_at_call 48; refine (K3.out _ HR2.out).mono ?_; rintro e3 w3 ⟨rfl, F3⟩; have HF3 := hide (HF2.out.trans F3 (fun _ _ e => e)); clear F3)
            | (go_at_call_of 46 (Value.bool true); refine (HMY.out _).mono ?_; rintro e9 w9 ⟨rfl, hw⟩; replace hw := hw.symm; subst hw))
          exact ⟨rfl, RQ.mkno HO.out HF3.out⟩
        | some z =>
          obtain ⟨ps, k, q⟩ := z
          have K3 := hide (fun (W : World) (h' : RS w0 W rb m 20000) => (rowP_any hN w0 W rb 20000 n m h' h8m (by omega) (by decide) (by omega)).mono (fun _ _ q => q.yes h2))
          have HO2 : out = if k = [] then some ps else none := by rw [HO1, h1]; simp only [h2]
          by_cases hk : k = []
          · subst hk
            have HO : Hid (out = some ps) := HO2.trans (if_pos rfl)
            clear HO1 HO2 hr hout h8 h84 hh h1 h2 h8d h8m hs1
            go_enter Try.func28, Try.ntmps28
            go_wp2_with (first
              | (go_at_call 47; refine K1.out.mono ?_; rintro e1 w1 ⟨v1, rfl, hb1, hr1, F1⟩; have k1 := hb1.conv hr1.1; have HR1 := hide hr1; have HF1 := hide F1; clear hb1 hr1 F1)
              | (go_at_call 49; refine (K2.out _ HR1.out).mono ?_; rintro e2 w2 ⟨⟨rfl, hr2⟩, F2⟩; have HR2 := hide hr2; have HF2 := hide (HF1.out.trans F2 (fun _ _ e => e)); clear F2 hr2)
              | (go_at_call 48; refine (K3.out _ HR2.out).mono ?_; rintro e3 w3 ⟨⟨ao3, rfl, hv3, hw3, hr3⟩, F3⟩; have HW3 := hide hw3; have HZ2 : Hid (w.heap.size ≤ w2.heap.size) := HF2.out.size; obtain ⟨hU3, hrb3, v3, hB3, hR3⟩ := id hr3; obtain ⟨a3, c3, rfl, -⟩ := id hB3; have x3 := hR3.c0; have HV3 := hide hv3; have HF3 := hide (HF2.out.trans F3 (fun _ _ e => e)); clear F3 hr3 hv3 hw3 hU3 hB3 hR3)
              | (go_at_call_of 46 (Value.bool true); refine (HMY.out _).mono ?_; rintro e9 w9 ⟨rfl, hw⟩; replace hw := hw.symm; subst hw))
            go_ret
            have hz := HZ2.out
            exact RQ.mk' HO.out HF3.out ⟨ao3, rfl, HV3.out.mono (fun _ _ q => q.keep (fun _ _ _ => rfl) (fun _ _ hq => by omega)), HW3.out.imp id (fun ⟨a, l, c, ea, hq⟩ => ⟨a, l, c, ea, by omega⟩)⟩
          · have HO : Hid (out = none) := HO2.trans (if_neg hk)
            have hkz : ((k.length : Int) == 0) = false := by
              rw [beq_eq_false_iff_ne]
              intro e
              exact hk (List.length_eq_zero_iff.1 (by omega))
            clear HO1 HO2 hr hout h8 h84 hh h1 h2 h8d h8m hs1 hk
            go_enter Try.func28, Try.ntmps28
            go_wp2_with (first
              | (go_at_call 47; refine K1.out.mono ?_; rintro e1 w1 ⟨v1, rfl, hb1, hr1, F1⟩; have k1 := hb1.conv hr1.1; have HR1 := hide hr1; have HF1 := hide F1; clear hb1 hr1 F1)
              | (go_at_call 49; refine (K2.out _ HR1.out).mono ?_; rintro e2 w2 ⟨⟨rfl, hr2⟩, F2⟩; have HR2 := hide hr2; have HF2 := hide (HF1.out.trans F2 (fun _ _ e => e)); clear F2 hr2)
              | (go_at_call 48; refine (K3.out _ HR2.out).mono ?_; rintro e3 w3 ⟨⟨ao3, rfl, hv3, hw3, hr3⟩, F3⟩; have HW3 := hide hw3; have HZ2 : Hid (w.heap.size ≤ w2.heap.size) := HF2.out.size; obtain ⟨hU3, hrb3, v3, hB3, hR3⟩ := id hr3; obtain ⟨a3, c3, rfl, -⟩ := id hB3; have x3 := hR3.c0; have HV3 := hide hv3; have HF3 := hide (HF2.out.trans F3 (fun _ _ e => e)); clear F3 hr3 hv3 hw3 hU3 hB3 hR3)
              | (go_at_call_of 46 (Value.bool true); refine (HMY.out _).mono ?_; rintro e9 w9 ⟨rfl, hw⟩; replace hw := hw.symm; subst hw)
              | (go_at_call_of 46 (Value.bool false); refine (HMN.out _).mono ?_; rintro e9 w9 ⟨rfl, hw⟩; replace hw := hw.symm; subst hw))
            exact ⟨rfl, RQ.mkno HO.out HF3.out⟩
    · rw [decide_eq_false hh] at hhd
      have HO : Hid (out = none) := by unfold Hid; rw [hout]; unfold rdPrg; rw [if_neg hh]
      clear hr hout h8 h84 hh
      go_enter Try.func28, Try.ntmps28
      go_wp2_with (first
        | (go_at_call 47; refine K1.out.mono ?_; rintro e1 w1 ⟨v1, rfl, hb1, hr1, F1⟩; have k1 := hb1.conv hr1.1; have HF1 := hide F1; clear hb1 hr1 F1)
        | (go_at_call_of 46 (Value.bool false); refine (HMN.out _).mono ?_; rintro e9 w9 ⟨rfl, hw⟩; replace hw := hw.symm; subst hw))
      exact ⟨rfl, RQ.mkno HO.out HF1.out⟩
  · have K1 := hide (rtake_no w0 w rb 20000 4 l hr (by omega) (by decide))
    have HO : Hid (out = none) := by
      unfold Hid
      rw [hout]
      unfold rdPrg
      rw [if_neg (fun e => by have := congrArg List.length e; rw [List.length_take] at this; simp at this; omega)]
    clear hr hout h8
    go_enter Try.func28, Try.ntmps28
    go_wp2_with (go_at_call 47; refine K1.out.mono ?_; rintro e1 w1 ⟨rfl, hw⟩; replace hw := hw.symm; subst hw)
    exact ⟨rfl, RQ.mkno HO.out (Fr.refl _ _)⟩

theorem catch_panicking (p q : Addr) (x y : Value) (u : TypeId) (pv : Value) (older : List PanicEntry) (w : World) (hc : w.cell? p = some x) (hz : w.frozen? p = false) (hc2 : (w.setCell p (.slice none 0 0)).cell? q = some y) (hz2 : (w.setCell p (.slice none 0 0)).frozen? q = false) :
    CallsD Try.prog 27 #[.pointer (some p), .pointer (some q)] (.panicking ({ v := .iface u pv, recovered := false } :: older)) w fun e u' w' =>
      e = .returned (.tuple #[]) ∧ u' = .panicking ({ v := .iface u pv, recovered := true } :: older) ∧ w' = (w.setCell p (.slice none 0 0)).setCell q (.int .i64 30) := by
  refine callsD_of_wpS Try.func27 rfl fun c₀ cs hu => ?_
  apply wpS_seq
  apply wpS_region
  simp [wpOpsS, go_sem, recoverD, hu, Try.ntmps27, Exit.thenS]
  refine wpS_cond (t := true) (by simp [Act.eval, Array.replicate]) ?_
  simp only [if_true]
  apply wpS_region
  simp [wpOpsS, go_sem, hc, hz, hc2, hz2, bodyPostS, results, Try.results27]
theorem catch_idle (p q : Addr) (w : World) :
    CallsD Try.prog 27 #[.pointer (some p), .pointer (some q)] .returning w fun e u' w' => e = .returned (.tuple #[]) ∧ u' = .returning ∧ w' = w := by
  refine callsD_of_wpS Try.func27 rfl fun c₀ cs hu => ?_
  apply wpS_seq
  apply wpS_region
  simp [wpOpsS, go_sem, recoverD, hu, Try.ntmps27, Exit.thenS]
  refine wpS_cond (t := false) (by simp [Act.eval, Array.replicate]) ?_
  simp only [Bool.false_eq_true, if_false]
  refine wpS_of_wp (wp_skip ?_)
  cases c₀
  simp_all [bodyPostS, results, Try.results27]

theorem fr_read {w W w' : World} (hU : Up w W) (F : Fr (fun j => j = w.heap.size + 2) W w') : Fr (fun _ => False) w w' := (show Fr (fun _ => False) w W from ⟨hU.os, hU.tape, hU.output, hU.size, fun k hk _ => hU.block k hk⟩).trans F (fun k hk e => by omega)
set_option maxRecDepth 20000 in
set_option maxHeartbeats 2000000 in
theorem read_no {h : Nat} (hN : 100 ≤ h) (w : World) (v : Value) (l : List Nat) (hb : BL w v l) (h8 : By8 l) (hl : l.length ≤ 100000000) (hx : rdPrg h l 20000 = none) :
    Calls Try.prog 13 #[v] w fun e w' => e = .returned (.tuple #[.slice none 0 0, .int .i64 30]) ∧ Fr (fun _ => False) w w' := by
  obtain ⟨ao, cap, rfl, hc⟩ := id hb
  have hmf : ∀ (fn : Fn) (first cap : Array Value) (w : World), (Instr.makeFunc fn first cap).run Try.prog w = .ok (.func fn first cap) w := fun _ _ _ _ => rfl
  obtain ⟨W, hW⟩ : ∃ W, W = ((w.alloc (.cells #[.slice none 0 0] 22)).alloc (.cells #[.int .i64 0] 24)).alloc (.cells #[.slice ao l.length cap, .int .i64 20000] 67) := ⟨_, rfl⟩
  have hsz : W.heap.size = w.heap.size + 3 := by rw [hW]; simp
  have hU : Up w W := by rw [hW]; exact (up_alloc w _).tr ((up_alloc _ _).tr (up_alloc _ _))
  have q2 : W.heap[w.heap.size + 2]? = some (.cells #[.slice ao l.length cap, .int .i64 20000] 67 (0, 0)) := by
    rw [hW]
    have := heap_alloc_new ((w.alloc (.cells #[.slice none 0 0] 22)).alloc (.cells #[.int .i64 0] 24)) (.cells #[.slice ao l.length cap, .int .i64 20000] 67)
    rw [World.size_alloc, World.size_alloc] at this
    exact this
  have q1 : W.heap[w.heap.size + 1]? = some (.cells #[.int .i64 0] 24 (0, 0)) := by
    rw [hW]
    have := heap_alloc_new (w.alloc (.cells #[.slice none 0 0] 22)) (.cells #[.int .i64 0] 24)
    rw [World.size_alloc] at this
    exact (heap_alloc_old _ _ (by simp)).trans this
  have q0 : W.heap[w.heap.size]? = some (.cells #[.slice none 0 0] 22 (0, 0)) := by
    rw [hW]
    exact (heap_alloc_old _ _ (by simp; omega)).trans ((heap_alloc_old _ _ (by simp)).trans (heap_alloc_new w _))
  have hRS : RS w W (w.heap.size + 2) l 20000 := ⟨hU, by omega, _, hb, q2⟩
  have HQ0 := hide q0
  have HQ1 := hide q1
  have HUW := hide hU
  have HW := hide hW
  have K := hide ((program_any hN w W (w.heap.size + 2) l hRS h8 hl).mono (fun _ _ q => q.no hx))
  clear hb hc hx h8 hRS q0 q1 q2 hU hW
  go_enter_defers Try.func13, Try.ntmps13
  go_wp2_with fail
  rw [← HW.out]
  go_wp2_with (go_at_call 28; refine K.out.mono ?_; rintro e1 w1 ⟨rfl, F1⟩; have HF1 := hide F1; clear F1)
  have c0 := (HF1.out.block w.heap.size (by omega) (by omega)).trans HQ0.out
  have c1 := (HF1.out.block (w.heap.size + 1) (by omega) (by omega)).trans HQ1.out
  have d1 := (heap_setCell_other w1 ⟨w.heap.size, 0, none⟩ (w.heap.size + 1) (.slice none 0 0) (by show w.heap.size + 1 ≠ w.heap.size; omega)).trans c1
  refine leaves_cons (f := 27) (args := #[.pointer (some ⟨w.heap.size, 0, none⟩), .pointer (some ⟨w.heap.size + 1, 0, none⟩)]) (by simp) (by simp [go_sem]) ?_
  refine (catch_panicking ⟨w.heap.size, 0, none⟩ ⟨w.heap.size + 1, 0, none⟩ (.slice none 0 0) (.int .i64 0) 9 _ [] _ (by rw [cell_of_row _ _ 0 _ _ _ c0]; rfl) (frozen_of_row _ _ _ _ _ c0) (by rw [cell_of_row _ _ 0 _ _ _ d1]; rfl) (frozen_of_row _ _ _ _ _ d1)).mono ?_
  rintro e u' w'' ⟨rfl, rfl, rfl⟩
  have g0 := heap_setCell_same w1 w.heap.size 0 _ _ (.slice none 0 0) c0
  have g0' := (heap_setCell_other (w1.setCell ⟨w.heap.size, 0, none⟩ (.slice none 0 0)) ⟨w.heap.size + 1, 0, none⟩ w.heap.size (.int .i64 30) (by show w.heap.size ≠ w.heap.size + 1; omega)).trans g0
  have g1 := heap_setCell_same (w1.setCell ⟨w.heap.size, 0, none⟩ (.slice none 0 0)) (w.heap.size + 1) 0 _ _ (.int .i64 30) d1
  have r0 : ((w1.setCell ⟨w.heap.size, 0, none⟩ (.slice none 0 0)).setCell ⟨w.heap.size + 1, 0, none⟩ (.int .i64 30)).cell? ⟨w.heap.size, 0, none⟩ = some (.slice none 0 0) := by rw [cell_of_row _ _ 0 _ _ _ g0']; rfl
  have r1 : ((w1.setCell ⟨w.heap.size, 0, none⟩ (.slice none 0 0)).setCell ⟨w.heap.size + 1, 0, none⟩ (.int .i64 30)).cell? ⟨w.heap.size + 1, 0, none⟩ = some (.int .i64 30) := by rw [cell_of_row _ _ 0 _ _ _ g1]; rfl
  have HFF := ((fr_read HUW.out HF1.out).setCell (g := w.heap.size) (fun e => by omega) 0 (.slice none 0 0)).setCell (g := w.heap.size + 1) (fun e => by omega) 0 (.int .i64 30)
  simp [Leaves, settle, results, Try.results13, go_sem, r0, r1]
  exact HFF

set_option maxRecDepth 20000 in
set_option maxHeartbeats 2000000 in
theorem read_yes {h : Nat} (hN : 100 ≤ h) (w : World) (v : Value) (l : List Nat) (hb : BL w v l) (h8 : By8 l) (hl : l.length ≤ 100000000) (ps : List (PC h)) (hx : rdPrg h l 20000 = some ps) :
    Calls Try.prog 13 #[v] w fun e w' => (∃ ao, e = .returned (.tuple #[.slice ao ps.length ps.length, .int .i64 0]) ∧ RowD w' (PCell w') (.slice ao ps.length ps.length) ps) ∧ Fr (fun _ => False) w w' := by
  obtain ⟨ao, cap, rfl, hc⟩ := id hb
  have hmf : ∀ (fn : Fn) (first cap : Array Value) (w : World), (Instr.makeFunc fn first cap).run Try.prog w = .ok (.func fn first cap) w := fun _ _ _ _ => rfl
  obtain ⟨W, hW⟩ : ∃ W, W = ((w.alloc (.cells #[.slice none 0 0] 22)).alloc (.cells #[.int .i64 0] 24)).alloc (.cells #[.slice ao l.length cap, .int .i64 20000] 67) := ⟨_, rfl⟩
  have hsz : W.heap.size = w.heap.size + 3 := by rw [hW]; simp
  have hU : Up w W := by rw [hW]; exact (up_alloc w _).tr ((up_alloc _ _).tr (up_alloc _ _))
  have q2 : W.heap[w.heap.size + 2]? = some (.cells #[.slice ao l.length cap, .int .i64 20000] 67 (0, 0)) := by
    rw [hW]
    have := heap_alloc_new ((w.alloc (.cells #[.slice none 0 0] 22)).alloc (.cells #[.int .i64 0] 24)) (.cells #[.slice ao l.length cap, .int .i64 20000] 67)
    rw [World.size_alloc, World.size_alloc] at this
    exact this
  have q1 : W.heap[w.heap.size + 1]? = some (.cells #[.int .i64 0] 24 (0, 0)) := by
    rw [hW]
    have := heap_alloc_new (w.alloc (.cells #[.slice none 0 0] 22)) (.cells #[.int .i64 0] 24)
    rw [World.size_alloc] at this
    exact (heap_alloc_old _ _ (by simp)).trans this
  have q0 : W.heap[w.heap.size]? = some (.cells #[.slice none 0 0] 22 (0, 0)) := by
    rw [hW]
    exact (heap_alloc_old _ _ (by simp; omega)).trans ((heap_alloc_old _ _ (by simp)).trans (heap_alloc_new w _))
  have hRS : RS w W (w.heap.size + 2) l 20000 := ⟨hU, by omega, _, hb, q2⟩
  have HQ0 := hide q0
  have HQ1 := hide q1
  have HUW := hide hU
  have HW := hide hW
  have K := hide ((program_any hN w W (w.heap.size + 2) l hRS h8 hl).mono (fun _ _ q => q.yes hx))
  have HLT := hide hsz
  clear hb hc hx h8 hRS q0 q1 q2 hU hW
  go_enter_defers Try.func13, Try.ntmps13
  go_wp2_with fail
  rw [← HW.out]
  go_wp2_with (go_at_call 28; refine K.out.mono ?_; rintro e1 w1 ⟨⟨ao1, rfl, hv1, hw1⟩, F1⟩; have HWQ := hide hw1; have c0 := (F1.block w.heap.size (by omega) (by omega)).trans HQ0.out; have c1 := (F1.block (w.heap.size + 1) (by omega) (by omega)).trans HQ1.out; have y0 : w1.cell? ⟨w.heap.size, 0, none⟩ = some (.slice none 0 0) := (by rw [cell_of_row _ _ 0 _ _ _ c0]; rfl); have z0 : w1.frozen? ⟨w.heap.size, 0, none⟩ = false := frozen_of_row _ _ _ _ _ c0; have d1 := (heap_setCell_other w1 ⟨w.heap.size, 0, none⟩ (w.heap.size + 1) (.slice ao1 ps.length ps.length) (by show w.heap.size + 1 ≠ w.heap.size; omega)).trans c1; have y1 : (w1.setCell ⟨w.heap.size, 0, none⟩ (.slice ao1 ps.length ps.length)).cell? ⟨w.heap.size + 1, 0, none⟩ = some (.int .i64 0) := (by rw [cell_of_row _ _ 0 _ _ _ d1]; rfl); have z1 : (w1.setCell ⟨w.heap.size, 0, none⟩ (.slice ao1 ps.length ps.length)).frozen? ⟨w.heap.size + 1, 0, none⟩ = false := frozen_of_row _ _ _ _ _ d1; have HC0 := hide c0; have HD1 := hide d1; have HV1 := hide hv1; have HF1 := hide F1; clear F1 hv1 hw1 c0 c1 d1)
  refine leaves_cons (f := 27) (args := #[.pointer (some ⟨w.heap.size, 0, none⟩), .pointer (some ⟨w.heap.size + 1, 0, none⟩)]) (by simp) (by simp [go_sem]) ?_
  refine (catch_idle ⟨w.heap.size, 0, none⟩ ⟨w.heap.size + 1, 0, none⟩ _).mono ?_
  rintro e u' w'' ⟨rfl, rfl, rfl⟩
  have g0 := heap_setCell_same w1 w.heap.size 0 _ _ (.slice ao1 ps.length ps.length) HC0.out
  have g0' := (heap_setCell_other (w1.setCell ⟨w.heap.size, 0, none⟩ (.slice ao1 ps.length ps.length)) ⟨w.heap.size + 1, 0, none⟩ w.heap.size (.int .i64 0) (by show w.heap.size ≠ w.heap.size + 1; omega)).trans g0
  have g1 := heap_setCell_same (w1.setCell ⟨w.heap.size, 0, none⟩ (.slice ao1 ps.length ps.length)) (w.heap.size + 1) 0 _ _ (.int .i64 0) HD1.out
  have r0 : ((w1.setCell ⟨w.heap.size, 0, none⟩ (.slice ao1 ps.length ps.length)).setCell ⟨w.heap.size + 1, 0, none⟩ (.int .i64 0)).cell? ⟨w.heap.size, 0, none⟩ = some (.slice ao1 ps.length ps.length) := by rw [cell_of_row _ _ 0 _ _ _ g0']; rfl
  have r1 : ((w1.setCell ⟨w.heap.size, 0, none⟩ (.slice ao1 ps.length ps.length)).setCell ⟨w.heap.size + 1, 0, none⟩ (.int .i64 0)).cell? ⟨w.heap.size + 1, 0, none⟩ = some (.int .i64 0) := by rw [cell_of_row _ _ 0 _ _ _ g1]; rfl
  have HFF := ((fr_read HUW.out HF1.out).setCell (g := w.heap.size) (fun e => by omega) 0 (.slice ao1 ps.length ps.length)).setCell (g := w.heap.size + 1) (fun e => by omega) 0 (.int .i64 0)
  have HRR : RowD ((w1.setCell ⟨w.heap.size, 0, none⟩ (.slice ao1 ps.length ps.length)).setCell ⟨w.heap.size + 1, 0, none⟩ (.int .i64 0)) (PCell ((w1.setCell ⟨w.heap.size, 0, none⟩ (.slice ao1 ps.length ps.length)).setCell ⟨w.heap.size + 1, 0, none⟩ (.int .i64 0))) (.slice ao1 ps.length ps.length) ps := HV1.out.blk HWQ.out (fun k hk hq => (heap_setCell_other _ _ _ _ (by show k ≠ w.heap.size + 1; have := HLT.out; omega)).trans (heap_setCell_other _ _ _ _ (by show k ≠ w.heap.size; have := HLT.out; omega))) (fun _ _ q => (q.keep (Q' := fun _ => True) (fun k hk hq => (heap_setCell_other _ _ _ _ (by show k ≠ w.heap.size + 1; have := HLT.out; omega)).trans (heap_setCell_other _ _ _ _ (by show k ≠ w.heap.size; have := HLT.out; omega))) (fun _ _ _ => trivial)).cell)
  simp [Leaves, settle, results, Try.results13, go_sem, r0, r1]
  exact ⟨HRR, HFF⟩

end Go.Proofs.Ytilcigjhogcjkaa
