/-
  What is proved here: tandemlaw10.PackCuts of any protos and bytes that come in.
-/
import Derived.Test.YtilcigjhogcjkaaPRReadM
import Derived.Test.YtilcigjhogcjkaaPRPureM
import Derived.Test.YtilcigjhogcjkaaPKCopyC
import Derived.Test.YtilcigjhogcjkaaPKWr3
import Derived.Test.YtilcigjhogcjkaaPKAwake
import Derived.Test.YtilcigjhogcjkaaPKBulk
import Derived.Test.YtilcigjhogcjkaaPKLiftB
namespace Go.Proofs.Ytilcigjhogcjkaa
open Go Go.RowKit

theorem retI {k : IntKind} {a b : Int} (h : a = b) : Ending.returned (.int k a) = .returned (.int k b) := by rw [h]
theorem place_num (v : Int) (n : Nat) (hn : 1 ≤ n) : (v.tmod n < 0 → v.tmod n + n = ((v % (n : Int)).toNat : Int)) ∧ (0 ≤ v.tmod n → v.tmod n = ((v % (n : Int)).toNat : Int)) ∧ - (n : Int) < v.tmod n := by
  have hm1 : 0 ≤ v % (n : Int) := Int.emod_nonneg _ (by omega)
  have hm2 : v % (n : Int) < n := Int.emod_lt_of_pos _ (by omega)
  have e := @Int.tmod_eq_emod v n
  by_cases hv : 0 ≤ v ∨ (n : Int) ∣ v
  · rw [if_pos hv] at e
    simp only [Int.natCast_zero, Int.sub_zero] at e
    refine ⟨fun h => by omega, fun _ => by omega, by omega⟩
  · rw [if_neg hv, Int.natAbs_natCast] at e
    have : v % (n : Int) ≠ 0 := fun h => hv (.inr (Int.dvd_of_emod_eq_zero h))
    refine ⟨fun h => by omega, fun _ => by omega, by omega⟩
set_option maxRecDepth 20000 in
theorem place_at (v : Int) (n : Nat) (w : World) (h1 : 1 ≤ n) (h2 : n ≤ 4611686018427387903) (_hv1 : -9223372036854775808 ≤ v) (_hv2 : v ≤ 9223372036854775807) :
    Calls Try.prog 17 #[.int .i64 v, .int .i64 (n : Int)] w fun e w' => e = .returned (.int .i64 ((v % (n : Int)).toNat : Int)) ∧ w' = w := by
  have e1 : ((n : Int) != 0) = true := by rw [bne_iff_ne]; omega
  obtain ⟨p1, p2, p3⟩ := place_num v n h1
  have P1 := hide p1
  have P2 := hide p2
  clear p1 p2
  go_enter Try.func17, Try.ntmps17
  go_wp2
  · go_ret
    exact ⟨retI (P1.out ‹_›), rfl⟩
  · go_ret
    exact ⟨retI (P2.out ‹_›), rfl⟩
theorem place_some (v : Int) (n : Nat) (h1 : 1 ≤ n) (h2 : n ≤ 4611686018427387903) (hv1 : -9223372036854775808 ≤ v) (hv2 : v ≤ 9223372036854775807) :
    ∃ k : Nat, k < n ∧ ∀ w, Calls Try.prog 17 #[.int .i64 v, .int .i64 (n : Int)] w fun e w' => e = .returned (.int .i64 (k : Int)) ∧ w' = w :=
  ⟨(v % (n : Int)).toNat, by
    have hm1 : 0 ≤ v % (n : Int) := Int.emod_nonneg _ (by omega)
    have hm2 : v % (n : Int) < n := Int.emod_lt_of_pos _ (by omega)
    omega, fun w => place_at v n w h1 h2 hv1 hv2⟩
/-- What Write comes to, of a program whose bytes are T. -/
def WrT (W : World) (T : List Nat) (q : Int) (e : Ending) (w' : World) : Prop := ∃ (a : Option Addr) (c : Nat), e = .returned (.tuple #[.slice a T.length c, .int .i64 q]) ∧ ByAt w' W.heap.size (.slice a T.length c) T ∧ Fr (fun _ => False) W w'
theorem writeT {N : Nat} {ps : List (PC N)} (hl : (pgB ps).length ≤ 900000000) (W : World) (v' : Value) (h : RowD W (PCell W) v' ps) : Calls Try.prog 8 #[v'] W fun e w' => WrT W (if mayW ps then pgB ps else []) (if mayW ps then 0 else 1) e w' :=
  (write_any W ps v' h (by omega)).mono (by
    rintro e w' ⟨v2, rfl, hb2, F2⟩
    obtain ⟨a, c, rfl⟩ : ∃ a c, v2 = .slice a (if mayW ps then pgB ps else []).length c := by
      rcases hb2.2 with ⟨e, e0⟩ | ⟨g, cap, cur, e, _⟩
      · exact ⟨none, 0, by rw [e, e0]⟩
      · exact ⟨_, _, e⟩
    exact ⟨a, c, rfl, hb2, F2⟩)

theorem bl_news {w : World} {ao : Option Addr} {n cap : Nat} {l : List Nat} (h : BL w (.slice ao n cap) l) : BM w ao n cap l := by
  obtain ⟨ao', cap', e, h1, h2, h3⟩ := h
  cases e
  refine ⟨?_, rfl, ?_⟩
  · intro e
    rcases h3 with ⟨_, e0⟩ | ⟨g, off, ea, _⟩
    · omega
    · rw [e] at ea
      cases ea
  · intro ad e j u hj
    rcases h3 with ⟨e0, _⟩ | ⟨g, off, ea, hc⟩
    · rw [e] at e0
      cases e0
    · rw [e] at ea
      cases ea
      have hl : j < l.length := by
        have := (List.getElem?_eq_some_iff.1 hj).1
        simpa [cL] using this
      rw [Addr.add_lit, hc j hl, ← hj]
      simp [cL, hl]
theorem BM.up {w w' : World} {ao : Option Addr} {n cap : Nat} {l : List Nat} (h : BM w ao n cap l) (u : Up w w') : BM w' ao n cap l :=
  ⟨h.1, h.2.1, fun ad e j x hj => by
    have := h.2.2 ad e j x hj
    exact (u.cell (p := ad.add j) (World.block_lt_of_cell? w _ this)).trans this⟩
set_option maxRecDepth 20000 in
theorem cpyB (w : World) (ao : Option Addr) (n cap : Nat) (l : List Nat) (h : BL w (.slice ao n cap) l) (hl : l.length ≤ 100000000) :
    Calls Try.prog 14 #[.slice ao n cap] w fun e w' => ∃ v', e = .returned v' ∧ ByAt w' w.heap.size v' l ∧ Fr (fun _ => False) w w' := by
  obtain ⟨iU, hiU, zU0, zU1, zU2⟩ := info_parts infoU8
  obtain ⟨h0, hn, hnews⟩ := bl_news h
  have hcl : (cL l).length = n * 1 := by rw [cL_len, hn]; omega
  have hN := hide hn
  clear h hn
  go_enter Try.func14, Try.ntmps14
  go_wp2_with (at_builtin; refine wpList_cpy rfl _ _ 23 rfl 5 iU _ 1 1 Try.underlying23 hiU zU0 zU1 zU2 rfl (by decide) rfl ao n cap rfl h0 (cL l) hcl hnews (cL_one _) (by have := hN.out; unfold maxLen; omega) (by have := hN.out; omega) ?_; intro v' w' own F; have HO := hide own; have HF := hide F; clear own F)
  go_ret
  refine ⟨_, rfl, ?_, HF.out⟩
  have := HO.out
  rw [hN.out] at this
  exact this
/-- One row of bytes behind another. -/
theorem wpList_catB {w : World} {ops : Array Oper} {rest : List Oper} {o : Oper} {a : Act} {Q : Exit → Act → World → Prop} (hg : o.guard = none) (s x : Operand) (ho : o.op = .call { callee := .builtin .append, args := #[s, x], argTypes := #[23, 23] })
    (v : Value) (base : Nat) (l : List Nat) (hs : a.eval s = v) (hown : ByAt w base v l) (ao : Option Addr) (n cap : Nat) (lm : List Nat) (hx : a.eval x = .slice ao n cap) (hm : BM w ao n cap lm) (hlen : l.length + lm.length ≤ 100000000) (hbase : base ≤ w.heap.size)
    (hK : ∀ v' w', ByAt w' base v' (l ++ lm) → w.grownBy w' v.ownBlock → wpList Try.prog ops Q rest (a.put o.dst v') w') : wpList Try.prog ops Q (o :: rest) a w := by
  obtain ⟨iU, hiU, zU0, zU1, zU2⟩ := info_parts infoU8
  obtain ⟨h0, hn, hnews⟩ := hm
  cases ao with
  | none =>
    obtain ⟨rfl, rfl⟩ := h0 rfl
    have e : lm = [] := List.length_eq_zero_iff.1 hn.symm
    subst e
    refine wpList_append_own_none hg s x 23 ho base 5 iU 1 Try.underlying23 hiU v l.length (cL l) hs hown hx ?_
    exact hK v w (by rw [List.append_nil]; exact hown) ⟨rfl, rfl, rfl, Nat.le_refl _, fun _ _ _ => rfl⟩
  | some ad =>
    refine wpList_append_own _ hg s x 23 ho base 5 iU _ 1 1 Try.underlying23 hiU zU0 zU1 zU2 rfl (by decide) v l.length (cL l) hs hown ad n cap (cL lm) hx (by rw [cL_len, hn]; omega) (hnews ad rfl) (cL_one _) (by unfold maxLen; omega) (by omega) hbase ?_
    intro v' w' ho2 hgr _
    refine hK v' w' ?_ hgr
    unfold ByAt
    rw [cL_app, List.length_append, ← hn]
    exact ho2

theorem ownsRow_ob {w : World} {base n : Nat} {E : TypeId} {s : Nat} {v : Value} {xs : List Value} (h : w.ownsRow base E s v n xs) {k : Nat} (hk : v.ownBlock = some k) : base ≤ k := by
  obtain ⟨-, ⟨rfl, -⟩ | ⟨g, cap, cur, rfl, hg, -⟩⟩ := h
  · cases hk
  · have : g = k := by simpa [Value.ownBlock] using hk
    omega
theorem byat_cap {w : World} {B n c : Nat} {a : Option Addr} {l : List Nat} (h : ByAt w B (.slice a n c) l) : n ≤ c := by
  obtain ⟨-, ⟨e, -⟩ | ⟨g, cap, cur, e, hg, hb, h3, -⟩⟩ := h
  · cases e
    exact Nat.le_refl _
  · cases e
    exact h3
theorem By8.take {l : List Nat} (h : By8 l) (k : Nat) : By8 (l.take k) := fun x hx => h x (List.mem_of_mem_take hx)

set_option maxRecDepth 20000 in
set_option maxHeartbeats 4000000 in
theorem cuts_walk {N : Nat} (hN : 100 ≤ N) (w : World) (ps : List (PC N)) (v : Value) (at' : Int) (mo : Option Addr) (mn mc : Nat) (lm : List Nat) (hr : RowD w (PCellN w) v ps) (hB : (ps.map pbk).sum + 1 ≤ 1048576) (hv1 : -9223372036854775808 ≤ at') (hv2 : at' ≤ 9223372036854775807)
    (hm : BM w mo mn mc lm) (h8m : By8 lm) (hlm : lm.length ≤ 1048576) :
    Calls Try.prog 6 #[v, .int .i64 at', .slice mo mn mc] w fun e w' => e = .returned (.bool true) ∧ Fr (fun _ => False) w w' := by
  obtain ⟨b1, b2⟩ := bulk_parts hB
  have hpg := pg_len ps
  have hsz := szP_of (hr.mono (fun _ _ h => h.1)) hB
  have HKC := hide (copyP_any w ps v hr (fun p hp => by have := b1 p hp; omega) (by omega))
  have HKW := hide (fun (W : World) (v' : Value) (h : RowD W (PCell W) v' ps) => writeT (by omega) W v' h)
  obtain ⟨ao, ca, rfl⟩ := hr.shape
  have HKA := hide (fun (W : World) => awake_any W)
  have HM := hide hm
  have hmn : Hid (mn = lm.length) := hm.2.1
  cases h1 : mayW ps with
  | false =>
    rw [h1] at HKW
    clear hr hB b1 b2 hpg hm
    go_enter Try.func6, Try.ntmps6
    go_wp2_with (first
      | (go_at_call 9; refine HKC.out.mono ?_; rintro e1 w1 ⟨v1, rfl, hP1, F1⟩; have HP1 := hide hP1; have HF1 := hide F1; clear hP1 F1)
      | (go_at_call 8; refine (HKW.out _ _ HP1.out).mono ?_; rintro e2 w2 ⟨a2, c2, rfl, hb2, F2⟩; have HF2 := hide (HF1.out.trans F2 (fun _ _ e => e)); clear F2 hb2)
      | (go_at_call 12; refine (HKA.out _).mono ?_; rintro e4 w4 ⟨rfl, F4⟩; have HF4 := hide (HF2.out.trans F4 (fun _ _ e => e)); clear F4))
    go_ret
    exact ⟨rfl, HF4.out⟩
  | true =>
    have henc := rdPrg_enc ps h1 hsz (by omega)
    have h8 := pg_by8 ps h1 hsz (by omega)
    have hpos : 0 < (pgB ps).length := by
      simp only [pgB, List.length_append]
      have := numB_pos ps.length
      omega
    simp only [h1, if_true] at HKW
    generalize pgB ps = T at *
    have hTl : T.length ≤ 100000000 := by omega
    have hT4 : T.length ≤ 50000000 := by omega
    obtain ⟨k, hk, hpl⟩ := place_some at' T.length (by omega) (by omega) hv1 hv2
    have HPL := hide hpl
    have hkT : k ≤ T.length := by omega
    have HCUT : Hid (rdPrg N (T.take k) 20000 = none) := rdPrg_cut (t := T.drop k) (by rw [List.take_append_drop]; exact henc) (fun e => by have := congrArg List.length e; simp at this; omega)
    have H8 := hide h8
    have hkI : (k : Int) ≤ (T.length : Int) := by omega
    have hT0 : ((T.length : Int) == 0) = false := by rw [beq_eq_false_iff_ne]; omega
    rcases List.eq_nil_or_concat lm with e | e
    · subst e
      have hm0 : mn = 0 := hmn.out
      have HENC := hide henc
      subst hm0
      clear hr hB b1 b2 hpg hm h1 henc h8 hpl hmn hsz
      go_enter Try.func6, Try.ntmps6
      go_wp2_with (first
        | (go_at_call 9; refine HKC.out.mono ?_; rintro e1 w1 ⟨v1, rfl, hP1, F1⟩; have HP1 := hide hP1; have HF1 := hide F1; clear hP1 F1)
        | (go_at_call 8; refine (HKW.out _ _ HP1.out).mono ?_; rintro e2 w2 ⟨a2, c2, rfl, hb2, F2⟩; have hkc : (k : Int) ≤ (c2 : Int) := (by have := byat_cap hb2; omega); have HB2 := hide hb2; have HF2 := hide (HF1.out.trans F2 (fun _ _ e => e)); clear F2 hb2)
        | (go_at_call 17; refine (HPL.out _).mono ?_; rintro e3 w3 ⟨rfl, rfl⟩)
        | (have hx := HR5; go_at_call 13; refine (read_yes hN _ _ T (by have := HR5.out.bl; rw [List.append_nil] at this; exact this) H8.out hTl ps HENC.out).mono ?_; rintro e7 w7 ⟨⟨ao7, rfl, -⟩, F7⟩; have HF7 := hide (HF6.out.trans F7 (fun _ _ e => e)); clear F7)
        | (go_at_call 13; refine (read_no hN _ _ _ (BL.take HB2.out.bl hkT) (H8.out.take k) (by rw [List.length_take]; omega) HCUT.out).mono ?_; rintro e4 w4 ⟨rfl, F4⟩; have HF4 := hide (HF2.out.trans F4 (fun _ _ e => e)); have HBL4 := hide (BL.up HB2.out.bl F4.upw'); clear F4)
        | (go_at_call 14; refine (cpyB _ _ _ _ _ HBL4.out hTl).mono ?_; rintro e5 w5 ⟨v5, rfl, hb5, F5⟩; have HB5 := hide hb5; have HF5 := hide (HF4.out.trans F5 (fun _ _ e => e)); have hbs : w4.heap.size ≤ w5.heap.size := F5.size; clear F5 hb5)
        | (at_builtin; refine wpList_catB rfl _ _ rfl _ _ _ rfl HB5.out _ _ _ _ rfl (BM.up HM.out HF5.out.upw') (by omega) hbs ?_; intro v6 w6 hb6 hg6; have HR5 := hide hb6; have HF6 := hide (HF5.out.grow hg6 (fun q hq e => by have := ownsRow_ob HB5.out e; have := HF4.out.size; omega)); clear hb6 hg6)
        | (go_at_call 12; refine (HKA.out _).mono ?_; rintro e8 w8 ⟨rfl, F8⟩; have HF8 := hide (HF7.out.trans F8 (fun _ _ e => e)); clear F8))
      go_ret
      exact ⟨rfl, HF8.out⟩
    · have hne : lm ≠ [] := by
        obtain ⟨L, b, rfl⟩ := e
        simp
      have hl1 : 0 < lm.length := List.length_pos_iff.2 hne
      have hm0 : ((mn : Int) == 0) = false := by rw [beq_eq_false_iff_ne, hmn.out]; omega
      have HENC := hide (rdPrg_more henc hne)
      have H8M := hide (h8.app h8m)
      have hTm : Hid ((T ++ lm).length ≤ 100000000) := by unfold Hid; rw [List.length_append]; omega
      clear hr hB b1 b2 hpg hm h1 henc h8 hpl hmn hsz e
      go_enter Try.func6, Try.ntmps6
      go_wp2_with (first
        | (go_at_call 9; refine HKC.out.mono ?_; rintro e1 w1 ⟨v1, rfl, hP1, F1⟩; have HP1 := hide hP1; have HF1 := hide F1; clear hP1 F1)
        | (go_at_call 8; refine (HKW.out _ _ HP1.out).mono ?_; rintro e2 w2 ⟨a2, c2, rfl, hb2, F2⟩; have hkc : (k : Int) ≤ (c2 : Int) := (by have := byat_cap hb2; omega); have HB2 := hide hb2; have HF2 := hide (HF1.out.trans F2 (fun _ _ e => e)); clear F2 hb2)
        | (go_at_call 17; refine (HPL.out _).mono ?_; rintro e3 w3 ⟨rfl, rfl⟩)
        | (have hx := HR5; go_at_call 13; refine (read_no hN _ _ _ HR5.out.bl H8M.out hTm.out HENC.out).mono ?_; rintro e7 w7 ⟨rfl, F7⟩; have HF7 := hide (HF6.out.trans F7 (fun _ _ e => e)); clear F7)
        | (go_at_call 13; refine (read_no hN _ _ _ (BL.take HB2.out.bl hkT) (H8.out.take k) (by rw [List.length_take]; omega) HCUT.out).mono ?_; rintro e4 w4 ⟨rfl, F4⟩; have HF4 := hide (HF2.out.trans F4 (fun _ _ e => e)); have HBL4 := hide (BL.up HB2.out.bl F4.upw'); clear F4)
        | (go_at_call 14; refine (cpyB _ _ _ _ _ HBL4.out hTl).mono ?_; rintro e5 w5 ⟨v5, rfl, hb5, F5⟩; have HB5 := hide hb5; have HF5 := hide (HF4.out.trans F5 (fun _ _ e => e)); have hbs : w4.heap.size ≤ w5.heap.size := F5.size; clear F5 hb5)
        | (at_builtin; refine wpList_catB rfl _ _ rfl _ _ _ rfl HB5.out _ _ _ _ rfl (BM.up HM.out HF5.out.upw') (by omega) hbs ?_; intro v6 w6 hb6 hg6; have HR5 := hide hb6; have HF6 := hide (HF5.out.grow hg6 (fun q hq e => by have := ownsRow_ob HB5.out e; have := HF4.out.size; omega)); clear hb6 hg6)
        | (go_at_call 12; refine (HKA.out _).mono ?_; rintro e8 w8 ⟨rfl, F8⟩; have HF8 := hide (HF7.out.trans F8 (fun _ _ e => e)); clear F8))
      go_ret
      exact ⟨rfl, HF8.out⟩

end Go.Proofs.Ytilcigjhogcjkaa
