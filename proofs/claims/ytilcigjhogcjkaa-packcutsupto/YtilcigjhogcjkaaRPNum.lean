/-
  What is proved here: the document's own numbers and texts as bytes (tandemref10): num, signed, some, bit, in, half.
-/
import Derived.Test.YtilcigjhogcjkaaPKWr3
namespace Go.Proofs.Ytilcigjhogcjkaa
open Go Go.RowKit

theorem ByAt.fr {w w' : World} {B : Nat} {v : Value} {l : List Nat} (h : ByAt w B v l) (hf : Fr (fun _ => False) w w') : ByAt w' B v l := by
  refine ⟨h.1, ?_⟩
  rcases h.2 with e | ⟨g, cap, cur, e1, e2, e3, e4⟩
  · exact .inl e
  · exact .inr ⟨g, cap, cur, e1, e2, (hf.block g (Array.getElem?_eq_some_iff.1 e3).1 (fun e => e)).trans e3, e4⟩
theorem ByAt.shape {w : World} {B : Nat} {v : Value} {l : List Nat} (h : ByAt w B v l) : ∃ ao cap, v = .slice ao l.length cap := row_shape h
theorem ByAt.mono {w : World} {B B' : Nat} {v : Value} {l : List Nat} (h : ByAt w B v l) (hb : B' ≤ B) : ByAt w B' v l := by
  refine ⟨h.1, ?_⟩
  rcases h.2 with e | ⟨g, cap, cur, e1, e2, e3, e4⟩
  · exact .inl e
  · exact .inr ⟨g, cap, cur, e1, Nat.le_trans hb e2, e3, e4⟩
theorem ByAt.one (w : World) (x : Nat) : ByAt (w.alloc (.cells #[.int .u8 (x : Int)] 5)) w.heap.size (.slice (some ⟨w.heap.size, 0, none⟩) 1 1) [x] :=
  ⟨rfl, .inr ⟨w.heap.size, 1, #[.int .u8 (x : Int)], rfl, Nat.le_refl _, heap_alloc_new w _, Nat.le_refl _, by decide, rfl, rfl⟩⟩
/-- Rows of bytes put one behind the other. -/
theorem wpList_appB {w : World} {ops : Array Oper} {rest : List Oper} {o : Oper} {a : Act} {Q : Exit → Act → World → Prop} (hgd : o.guard = none) (s x : Operand) (ho : o.op = .call { callee := .builtin .append, args := #[s, x], argTypes := #[23, 23] })
    (B : Nat) (v : Value) (l : List Nat) (hs : a.eval s = v) (h : ByAt w B v l) (B2 : Nat) (v2 : Value) (l2 : List Nat) (hx : a.eval x = v2) (h2 : ByAt w B2 v2 l2) (hne : 0 < l2.length) (hbd : l.length + l2.length ≤ 1000000000) (hbase : B ≤ w.heap.size)
    (hK : ∀ ao cap w', ByAt w' B (.slice ao (l ++ l2).length cap) (l ++ l2) → FW B w w' → wpList Try.prog ops Q rest (a.put o.dst (.slice ao (l ++ l2).length cap)) w') : wpList Try.prog ops Q (o :: rest) a w := by
  obtain ⟨iU, hiU, zU0, zU1, zU2⟩ := info_parts infoU8
  rcases h2.2 with ⟨e, e0⟩ | ⟨g, cap, cur, e1, e2, e3, e4, e5, e6, e7⟩
  · omega
  · have hcell : ∀ j u, (cL l2)[j]? = some u → w.cell? ((⟨g, 0, none⟩ : Addr).add j) = some u := fun j u hj => by
      rw [Addr.add_lit, Nat.zero_add, cell_of_row w g j cur _ _ e3, ← Array.getElem?_toList]
      rw [← e7, List.getElem?_take] at hj
      split at hj
      · exact hj
      · cases hj
    refine wpList_append_lies w hgd s x 23 ho B 5 iU (.int .u8 0) 1 1 Try.underlying23 hiU zU0 zU1 zU2 rfl (by decide) v l.length (cL l) hs h ⟨g, 0, none⟩ l2.length cap (cL l2) (by rw [hx, e1]) (by rw [cL_len]; omega) hcell (cL_one _) hne (by unfold maxLen; omega) (by omega) hbase w.heap.size rfl ?_
    intro g9 cap9 w9 hown9 hgrow9 hat9 _
    have e8 : l.length + l2.length = (l ++ l2).length := List.length_append.symm
    rw [e8, ← cL_app] at hown9
    rw [e8]
    refine hK _ _ _ hown9 ⟨(Fr.refl (fun k => B ≤ k) w).grow hgrow9 (fun k _ e => (h.lt k e).1), fun k c E f hk h1 _ => ?_⟩
    have hkl := (Array.getElem?_eq_some_iff.1 hk).1
    have hkv : some k ≠ v.ownBlock := fun e => by
      rcases h.2 with ⟨ev, _⟩ | ⟨g', cap', cur', e1', _, e3', _⟩
      · rw [ev] at e; cases e
      · rw [e1'] at e
        have e : k = g' := by simpa [Value.ownBlock] using e
        rw [e, e3'] at hk
        injection hk with hk
        injection hk with _ hk
        exact h1 hk.symm
    rw [hgrow9.block k hkl hkv]
    exact hk
/-- What a maker of bytes comes to. -/
def BEnd (w : World) (l : List Nat) (e : Ending) (w' : World) : Prop := ∃ ao cap, e = .returned (.slice ao l.length cap) ∧ ByAt w' w.heap.size (.slice ao l.length cap) l ∧ Fr (fun _ => False) w w'
theorem numB_pos (n : Nat) : 0 < (numB n).length := by
  unfold numB grpB
  split <;> simp
theorem grpB_len : ∀ f v, (grpB f v).length ≤ f + 1
  | 0, v => by simp [grpB]
  | f + 1, v => by
    unfold grpB
    split
    · simp
    · simp only [List.length_cons]
      have := grpB_len f (v / 128)
      omega
theorem numB_le (n : Nat) : (numB n).length ≤ 11 := grpB_len 10 n

set_option maxRecDepth 20000 in
theorem rnum_lt (n : Nat) (w : World) (h : n < 128) : Calls Try.prog 22 #[.int .i64 (n : Int)] w fun e w' => BEnd w (numB n) e w' := by
  have HE : Hid (numB n = [n]) := numB_lt h
  have hI : (n : Int) < 128 := by omega
  go_enter Try.func22, Try.ntmps22
  go_wp2
  go_ret
  exact ⟨some ⟨w.heap.size, 0, none⟩, 1, by rw [HE.out]; rfl, by rw [HE.out]; exact ByAt.one w n, (Fr.refl _ _).alloc _⟩
set_option maxRecDepth 20000 in
set_option maxHeartbeats 1000000 in
theorem rnum_all : (f : Nat) → ∀ (n : Nat) (w : World), n < 128 ^ (f + 1) → n ≤ 9223372036854775807 → Calls Try.prog 22 #[.int .i64 (n : Int)] w fun e w' => BEnd w (numB n) e w'
  | 0 => fun n w hn _ => rnum_lt n w (by simpa using hn)
  | f + 1 => fun n w hn hn2 => by
    by_cases h : n < 128
    · exact rnum_lt n w h
    · have ih := rnum_all f
      have hI : ¬ (n : Int) < 128 := by omega
      obtain ⟨x, hx1, hx2⟩ : ∃ x : Nat, (n : Int) % 128 + 128 = (x : Int) ∧ x = n % 128 + 128 := ⟨n % 128 + 128, by omega, rfl⟩
      obtain ⟨q, hq1, hq2⟩ : ∃ q : Nat, (n : Int) / 128 = (q : Int) ∧ q = n / 128 := ⟨n / 128, by omega, rfl⟩
      have hqf : q < 128 ^ (f + 1) := by
        rw [hq2, Nat.div_lt_iff_lt_mul (by decide), ← Nat.pow_succ]
        exact hn
      have HK := hide (fun (W : World) => ih q W hqf (by omega))
      have HE : Hid (numB n = [x] ++ numB q) := by unfold Hid; rw [numB_ge (by omega) (by omega), hx2, hq2]; rfl
      have hq3 := numB_le q
      have hq4 := numB_pos q
      have HO := hide (ByAt.one w x)
      clear hn hqf hx2 hq2 ih
      generalize numB q = lq at *
      generalize numB n = ln at *
      go_enter Try.func22, Try.ntmps22
      go_wp2_with (first
        | (go_at_call 22; refine (HK.out _).mono ?_; rintro e1 w1 ⟨a1, c1, rfl, hb1, F1⟩; have HB1 := hide hb1; have HO1 := hide (HO.out.fr F1); have HF1 := hide (Fr.trans (S := fun _ => False) ((Fr.refl _ w).alloc _) F1 (fun _ _ e => e)); have hz : w.heap.size ≤ w1.heap.size := HF1.out.size; clear hb1 F1)
        | (at_builtin; refine wpList_appB rfl _ _ rfl w.heap.size _ [x] rfl HO1.out _ _ lq rfl HB1.out hq4 (by simp; omega) hz ?_; intro a9 c9 w9 hb9 F9; have HB9 := hide hb9; have HF9 := hide (fw_new F9 HF1.out); clear hb9 F9))
      go_ret
      exact ⟨a9, c9, by rw [HE.out]; rfl, by rw [HE.out]; exact HB9.out, HF9.out⟩
theorem rnum_any (n : Nat) (w : World) (hn : n ≤ 9223372036854775807) : Calls Try.prog 22 #[.int .i64 (n : Int)] w fun e w' => BEnd w (numB n) e w' := rnum_all 9 n w (by omega) hn
theorem rnum_int (v : Int) (w : World) (h0 : 0 ≤ v) (h1 : v ≤ 9223372036854775807) : Calls Try.prog 22 #[.int .i64 v] w fun e w' => BEnd w (numB v.toNat) e w' := by
  have := rnum_any v.toNat w (by omega)
  rw [Int.toNat_of_nonneg h0] at this
  exact this

set_option maxRecDepth 20000 in
theorem rsigned_any (v : Int) (w : World) (h1 : -549755813888 ≤ v) (h2 : v ≤ 549755813888) : Calls Try.prog 25 #[.int .i64 v] w fun e w' => BEnd w (numB (sgnN v)) e w' := by
  have hx : sgnN v ≤ 9223372036854775807 := by unfold sgnN; split <;> omega
  have HK := hide (rnum_any (sgnN v) w hx)
  by_cases hv : v < 0
  · have e : ((sgnN v : Nat) : Int) = -2 * v - 1 := by unfold sgnN; rw [if_pos hv]; omega
    rw [e] at HK
    clear e hx
    generalize numB (sgnN v) = lv at *
    go_enter Try.func25, Try.ntmps25
    go_wp2_with (go_at_call 22; refine HK.out.mono ?_; rintro e1 w1 ⟨a1, c1, rfl, hb1, F1⟩)
    go_ret
    exact ⟨a1, c1, rfl, hb1, F1⟩
  · have e : ((sgnN v : Nat) : Int) = 2 * v := by unfold sgnN; rw [if_neg hv]; omega
    rw [e] at HK
    clear e hx
    generalize numB (sgnN v) = lv at *
    go_enter Try.func25, Try.ntmps25
    go_wp2_with (go_at_call 22; refine HK.out.mono ?_; rintro e1 w1 ⟨a1, c1, rfl, hb1, F1⟩)
    go_ret
    exact ⟨a1, c1, rfl, hb1, F1⟩

set_option maxRecDepth 20000 in
theorem rsome_any (s : ByteArray) (w : World) (hs : s.size ≤ 900000000) : Calls Try.prog 23 #[.string s] w fun e w' => BEnd w (txtB s) e w' := by
  obtain ⟨iU, hiU, zU0, zU1, zU2⟩ := info_parts infoU8
  have hn := numB_le s.size
  have KN := rnum_any s.size w (by omega)
  obtain ⟨o1, ho1⟩ : ∃ o1, o1 = numB s.size := ⟨_, rfl⟩
  rw [← ho1] at KN hn
  have HK := hide KN
  have HEQ : Hid (txtB s = o1 ++ byL s.data.toList) := by unfold Hid txtB; rw [ho1]
  have HLN : Hid ((txtB s).length = o1.length + s.size) := by unfold Hid; rw [HEQ.out, List.length_append, byL_len]
  clear KN ho1
  go_enter Try.func23, Try.ntmps23
  go_wp2_with (first
    | (go_at_call 22; refine HK.out.mono ?_; rintro e1 w1 ⟨a1, c1, rfl, hb1, F1⟩; have hB1 : w.heap.size ≤ w1.heap.size := F1.size; have hown : w1.ownsRow w.heap.size 5 1 (.slice a1 o1.length c1) o1.length (cL o1) := hb1; have HF1 := hide F1; clear hb1 F1)
    | (at_builtin; refine Lib.wpList_append_own_string _ rfl _ _ 23 9 rfl w.heap.size 5 iU Try.underlying23 Try.underlying9 hiU zU0 zU1 zU2 _ o1.length _ rfl hown s rfl (by unfold maxLen; omega) (by omega) hB1 ?_; intro v9 w9 hown9 hgrow9 _; obtain ⟨ao9, cap9, e9⟩ := row_shape hown9; subst e9; have HO9 := hide hown9; have HF9 := hide (HF1.out.grow hgrow9 (fun k hk e => by have := (hown.lt k e).1; omega)); clear hown9 hgrow9))
  go_ret
  refine ⟨ao9, cap9, by rw [HLN.out]; rfl, ?_, HF9.out⟩
  have := HO9.out
  rw [cL_str, ← cL_app, ← HEQ.out, ← HLN.out] at this
  exact this

set_option maxRecDepth 20000 in
theorem rbit_any (b : Bool) (w : World) : Calls Try.prog 24 #[.bool b] w fun e w' => e = .returned (.int .u8 (if b then 1 else 0)) ∧ w' = w := by
  cases b
  · go_enter Try.func24, Try.ntmps24
    go_wp2
    go_ret
    exact ⟨rfl, rfl⟩
  · go_enter Try.func24, Try.ntmps24
    go_wp2
    go_ret
    exact ⟨rfl, rfl⟩

end Go.Proofs.Ytilcigjhogcjkaa
