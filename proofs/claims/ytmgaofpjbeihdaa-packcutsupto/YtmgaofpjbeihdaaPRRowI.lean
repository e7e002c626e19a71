/-
  What is proved here: the reader's rows of instructions (package pack).
-/
import Derived.Test.YtmgaofpjbeihdaaPRIns
namespace Go.Proofs.Ytmgaofpjbeihdaa
open Go Go.RowKit

theorem infoIr : (Try.prog.info? 50).map (fun i => (i.zero, i.size, i.bytes)) = some (some (.agg #[.int .i64 0, .int .i64 0, .int .i64 0]), 3, 24) := by kernel_rfl
theorem wpList_mkI {w : World} {ops : Array Oper} {rest : List Oper} {o : Oper} {a : Act} {Q : Exit → Act → World → Prop}
    (hg : o.guard = none) (l c : Operand) (hop : o.op = Op.makeSlice 44 l c)
    (kl kc : IntKind) (L C : Int) (n : Nat) (hl : a.eval l = .int kl L) (hc : a.eval c = .int kc C) (hL : L = (n : Int)) (hC : C = (n : Int)) (b2 : 24 * n ≤ 281474976710656)
    (hK : ∀ w', FR 50 w' w.heap.size (n * 3) [] → Fr (fun _ => False) w w' → w.heap.size < w'.heap.size → wpList Try.prog ops Q rest (a.put o.dst (.slice (some ⟨w.heap.size, 0, none⟩) n n)) w') :
    wpList Try.prog ops Q (o :: rest) a w := by
  obtain ⟨i, hi, hz0, hz1, hz2⟩ := info_parts infoIr
  refine wpList_make_full w hg l c 44 hop w.heap.size 50 i (.agg #[.int .i64 0, .int .i64 0, .int .i64 0]) 3 Try.underlying44 hi hz0 hz1 kl kc L C n hl hc hL hC (by rw [hz2]; exact b2) (by unfold maxLen; omega) (Nat.le_refl _) ?_
  intro w' hown hgrow
  have hR : FR 50 w' w.heap.size (n * 3) [] := by
    rcases hown.2 with ⟨e, _⟩ | ⟨g, cap, cur, e, h1, h2, h3, h4, h5, h6⟩
    · cases e
    · cases e
      exact ⟨cur, h2, h5, rfl⟩
  exact hK w' hR ((Fr.refl _ w).grow hgrow (fun k _ e => by cases e)) hR.lt
/-- A row that was read. -/
def RowI (w : World) (B : Nat) (v : Value) (xs : List (Int × Int × Int)) : Prop := (xs = [] ∧ v = .slice none 0 0) ∨ ∃ g, B ≤ g ∧ v = .slice (some ⟨g, 0, none⟩) xs.length xs.length ∧ FR 50 w g (xs.length * 3) (cI xs)
def okIs (w0 : World) (rb p B : Nat) (x : List (Int × Int × Int) × List Nat) (e : Ending) (w' : World) : Prop := ∃ v, e = .returned v ∧ RowI w' B v x.1 ∧ RS w0 w' rb x.2 p
theorem cI_snoc (l : List (Int × Int × Int)) (x : Int × Int × Int) : cI (l ++ [x]) = ((cI l ++ [.int .i64 x.1]) ++ [.int .i64 x.2.1]) ++ [.int .i64 x.2.2] := by
  unfold cI
  rw [List.flatMap_append]
  simp

set_option maxRecDepth 20000 in
set_option maxHeartbeats 2000000 in
theorem rowI_any (w0 w : World) (rb p n : Nat) (l : List Nat) (h : RS w0 w rb l p) (h8 : By8 l) (hn : n ≤ 100000000) :
    Calls Try.prog 63 #[.int .i64 (n : Int), .func (.func 64) #[.pointer (some ⟨rb, 0, none⟩)] #[]] w fun e w' => RQ w rb (okIs w0 rb p w.heap.size) (rdRow rdIns n l) e w' := by
  obtain ⟨out, hout⟩ : ∃ o, o = rdRow rdIns n l := ⟨_, rfl⟩
  rw [← hout]
  by_cases h0 : n = 0
  · subst h0
    have HO : Hid (out = some ([], l)) := hout
    have HRS := hide h
    clear h hout
    go_enter Try.func63, Try.ntmps63
    go_wp2
    go_ret
    exact RQ.mk' HO.out (Fr.refl _ _) ⟨_, rfl, .inl ⟨rfl, rfl⟩, HRS.out⟩
  · have g0 : ((n : Int) == 0) = false := by rw [beq_eq_false_iff_ne]; omega
    have HRS := hide h
    have HOUT := hide hout
    have H8 := hide h8
    have hrbl : rb < w.heap.size := h.lt
    clear h hout h8
    go_enter Try.func63, Try.ntmps63
    go_wp2_with (at_make; refine wpList_mkI rfl _ _ rfl .i64 .i64 _ _ n rfl rfl rfl rfl (by omega) ?_; intro w1 R1 F1 hlt1; have HR1 := hide R1; have HF1 := hide F1; clear R1 F1)
    go_loopw [13] (fun c wr => ∃ (i : Nat) (xs : List (Int × Int × Int)) (m : List Nat), i ≤ n ∧ c = .int .i64 (i : Int) ∧ xs.length = i ∧ RS w0 wr rb m p ∧ Fr (fun j => j = rb) w wr ∧ By8 m ∧ FR 50 wr w.heap.size (n * 3) (cI xs) ∧ out = more xs (rdRow rdIns (n - i) m)) (fun c _ => n - (intOf c).toNat)
    case atStart => exact ⟨0, [], l, Nat.zero_le _, rfl, rfl, HRS.out.mono HF1.out.upw2, HF1.out.mono (fun _ _ e => e.elim), H8.out, HR1.out, by rw [more_nil]; exact HOUT.out⟩
    case round =>
      clear HRS HOUT H8 HR1 HF1
      obtain ⟨i, xs, m, hi, rfl, hxl, hrs, hF, hm8, hR, ho⟩ := hrel
      by_cases hil : i < n
      · have hiI : (i : Int) < (n : Int) := by omega
        rw [show n - i = (n - (i + 1)) + 1 by omega] at ho
        have HFF := hide hF
        have HR := hide hR
        cases hx : rdIns m with
        | none =>
          have K := hide ((rdins_any w0 wr rb p m hrs hm8).mono (fun _ _ q => q.no hx))
          have HO : Hid (out = none) := ho.trans (more_no hx)
          clear hrs hF hR ho hx
          go_wp2_with (go_at_call 64; refine K.out.mono ?_; rintro e2 w2 ⟨rfl, F2⟩; have HF2 := hide (HFF.out.trans F2 (fun _ _ e => e)); clear F2)
          exact ⟨rfl, RQ.mkno HO.out HF2.out⟩
        | some y =>
          obtain ⟨x, m2⟩ := y
          have K := hide ((rdins_any w0 wr rb p m hrs hm8).mono (fun _ _ q => q.yes hx))
          have HO : Hid (out = more (xs ++ [x]) (rdRow rdIns (n - (i + 1)) m2)) := ho.trans (more_yes hx)
          have HM8 := hide (rdIns_by8 hx hm8)
          have hcl : (cI xs).length = i * 3 := by rw [cI_len, hxl]
          have HCL := hide hcl
          clear hrs hF hR ho hx hcl
          go_wp2_with (go_at_call 64; refine K.out.mono ?_; rintro e2 w2 ⟨⟨rfl, hr2⟩, F2⟩; have HF2 := hide (HFF.out.trans F2 (fun _ _ e => e)); have R2 := HR.out.fr F2 (by omega); have A0 := R2.push (.int .i64 x.1) (by rw [HCL.out]; omega); have A1 := A0.push (.int .i64 x.2.1) (by rw [List.length_append, HCL.out, List.length_singleton]; omega); have A2 := A1.push (.int .i64 x.2.2) (by rw [List.length_append, List.length_append, HCL.out, List.length_singleton, List.length_singleton]; omega); rw [HCL.out] at A0; rw [List.length_append, HCL.out, List.length_singleton] at A1; rw [List.length_append, List.length_append, HCL.out, List.length_singleton, List.length_singleton] at A2; obtain ⟨u0, z0⟩ := R2.some (i := i * 3) (by omega); obtain ⟨u1, z1⟩ := A0.some (i := i * 3 + 1) (by omega); obtain ⟨u2, z2⟩ := A1.some (i := i * 3 + 1 + 1) (by omega); have t0 := R2.fz (i * 3); have t1 := A0.fz (i * 3 + 1); have t2 := A1.fz (i * 3 + 1 + 1); have HA2 := hide A2; have HRS2 := hide hr2; clear F2 hr2 R2 A0 A1 A2)
          refine ⟨⟨i + 1, xs ++ [x], m2, hil, by go_num, by simp [hxl], ((HRS2.out.setO (by omega)).setO (by omega)).setO (by omega), ((HF2.out.setCell (fun e => by omega) _ _).setCell (fun e => by omega) _ _).setCell (fun e => by omega) _ _, HM8.out, ?_, HO.out⟩, by simp [intOf]; omega⟩
          rw [cI_snoc]
          have h := HA2.out
          simp only [List.length_append, List.length_singleton, HCL.out] at h
          exact h
      · have e : i = n := by omega
        subst e
        have hil' : ¬ ((i : Int) < (i : Int)) := by omega
        rw [Nat.sub_self, rdRow_zero] at ho
        have HO : Hid (out = some (xs, m)) := by
          unfold Hid
          rw [ho]
          simp [more]
        have HFF := hide hF
        have HRS := hide hrs
        have HRR : Hid (RowI wr w.heap.size (.slice (some ⟨w.heap.size, 0, none⟩) i i) xs) := .inr ⟨_, Nat.le_refl _, by rw [hxl], by rw [hxl]; exact hR⟩
        clear hrs hF hR ho hil
        go_wp2
        go_ret
        exact RQ.mk' HO.out HFF.out ⟨_, rfl, HRR.out, HRS.out⟩

end Go.Proofs.Ytmgaofpjbeihdaa
