/-
  What is proved here: a writer's number, signed, flag, text (package pack).
-/
import Derived.Test.YtilcigjhogcjkaaPKOut
import Derived.Laws.AppendOwnNone
import Derived.Lib.AppendStr
namespace Go.Proofs.Ytilcigjhogcjkaa
open Go Go.RowKit

/-- What a writer's method comes to. -/
def WEnd (B : Nat) (w : World) (wb : Nat) (out : List Nat) (e : Ending) (w' : World) : Prop := e = .returned (.tuple #[]) ∧ WO B w' wb out ∧ FW B w w'

theorem news1 (w : World) (x : Nat) (E : TypeId) : ∀ j u, (cL [x])[j]? = some u → (w.alloc (.cells #[.int .u8 (x : Int)] E)).cell? ((⟨w.heap.size, 0, none⟩ : Addr).add j) = some u := fun j u hj => by
  rcases j with _ | j
  · simp [cL] at hj
    subst hj
    rw [Addr.add_lit, cell_of_row _ _ _ _ _ _ (heap_alloc_new w _)]
    rfl
  · simp [cL] at hj

set_option maxRecDepth 20000 in
set_option maxHeartbeats 1000000 in
theorem number_any (B : Nat) (w : World) (wb : Nat) (out : List Nat) (n : Nat) (h : WO B w wb out) (hn : n ≤ 9223372036854775807) (hl : (out ++ numB n).length ≤ 1000000000) (hB : B ≤ w.heap.size) :
    Calls Try.prog 40 #[.pointer (some ⟨wb, 0, none⟩), .int .i64 (n : Int)] w fun e w' => WEnd B w wb (out ++ numB n) e w' := by
  obtain ⟨iU, hiU, zU0, zU1, zU2⟩ := info_parts infoU8
  have HH := hide h
  have HL := hide hl
  clear h hl
  go_enter Try.func40, Try.ntmps40
  go_wp2_with fail
  go_loopw [1] (fun u wr => ∃ (m : Nat) (o : List Nat), u = .int .i64 (m : Int) ∧ m ≤ 9223372036854775807 ∧ o ++ numB m = out ++ numB n ∧ WO B wr wb o ∧ FW B w wr) (fun u _ => (intOf u).toNat)
  case atStart => exact ⟨n, out, rfl, hn, rfl, HH.out, FW.refl _ _⟩
  case round =>
    clear HH
    obtain ⟨m, o, rfl, hm, he, ⟨v, hv⟩, hF⟩ := hrel
    obtain ⟨ao, cap, ev⟩ := hv.shape
    have hlen : o.length + 1 ≤ 1000000000 := by
      have h1 := HL.out
      rw [← he] at h1
      have h2 : 1 ≤ (numB m).length := by
        unfold numB grpB
        split <;> simp
      rw [List.length_append] at h1
      omega
    have c0 := hv.cell
    have z0 := hv.free
    have hBs : B ≤ wr.heap.size := Nat.le_trans hB hF.fr.size
    have hown := hv.own
    subst ev
    have HV := hide hv
    have HE := hide he
    have HF := hide hF
    clear hv he hF
    by_cases hm1 : 128 ≤ m
    · have hmI : (128 : Int) ≤ (m : Int) := by omega
      obtain ⟨x, hx1, hx2⟩ : ∃ x : Nat, (m : Int) % 128 + 128 = (x : Int) ∧ x = m % 128 + 128 := ⟨m % 128 + 128, by omega, rfl⟩
      have he2 : (o ++ [x]) ++ numB (m / 128) = out ++ numB n := by rw [← HE.out, numB_ge hm1 (by omega), hx2]; simp
      have HE2 := hide he2
      clear he2 hx2
      go_wp2_with (at_builtin; refine wpList_append_lies _ rfl _ _ 23 rfl B 5 iU (.int .u8 0) 1 1 Try.underlying23 hiU zU0 zU1 zU2 rfl (by decide) _ o.length _ rfl (hown.alloc _) ⟨wr.heap.size, 0, none⟩ 1 1 (cL [x]) rfl rfl (news1 wr x _) (cL_one _) (by decide) (by unfold maxLen; omega) (by omega) (by simp; omega) (wr.heap.size + 1) (by simp) ?_; intro g9 cap9 w9 hown9 hgrow9 hat9 _; have y9 := (HV.out.at9 ((Fr.refl _ _).alloc _) hgrow9).1; have z9 := (HV.out.at9 ((Fr.refl _ _).alloc _) hgrow9).2; have HP9 := hide (HV.out.put (x := [x]) ((Fr.refl _ _).alloc _) (by simp) hown9 hgrow9 (hat9.imp id (fun e => by simp [e]))); clear hown9 hgrow9 hat9)
      exact ⟨⟨m / 128, o ++ [x], by go_num, by omega, HE2.out, ⟨_, HP9.out.1⟩, HF.out.trans HP9.out.2⟩, by simp [intOf]; omega⟩
    · have he2 : o ++ [m] = out ++ numB n := by rw [← HE.out, numB_lt (by omega)]
      have HE2 := hide he2
      clear he2
      go_wp2_with (at_builtin; refine wpList_append_lies _ rfl _ _ 23 rfl B 5 iU (.int .u8 0) 1 1 Try.underlying23 hiU zU0 zU1 zU2 rfl (by decide) _ o.length _ rfl (hown.alloc _) ⟨wr.heap.size, 0, none⟩ 1 1 (cL [m]) rfl rfl (news1 wr m _) (cL_one _) (by decide) (by unfold maxLen; omega) (by omega) (by simp; omega) (wr.heap.size + 1) (by simp) ?_; intro g9 cap9 w9 hown9 hgrow9 hat9 _; have y9 := (HV.out.at9 ((Fr.refl _ _).alloc _) hgrow9).1; have z9 := (HV.out.at9 ((Fr.refl _ _).alloc _) hgrow9).2; have HP9 := hide (HV.out.put (x := [m]) ((Fr.refl _ _).alloc _) (by simp) hown9 hgrow9 (hat9.imp id (fun e => by simp [e]))); clear hown9 hgrow9 hat9)
      refine bodyPost_end (results_none rfl _ _ _) rfl ⟨rfl, ⟨_, by rw [← HE2.out]; exact HP9.out.1⟩, HF.out.trans HP9.out.2⟩

set_option maxRecDepth 20000 in
set_option maxHeartbeats 1000000 in
theorem signed_any (B : Nat) (w : World) (wb : Nat) (out : List Nat) (v : Int) (h : WO B w wb out) (h1 : -549755813888 ≤ v) (h2 : v ≤ 549755813888) (hl : (out ++ numB (sgnN v)).length ≤ 1000000000) (hB : B ≤ w.heap.size) :
    Calls Try.prog 56 #[.pointer (some ⟨wb, 0, none⟩), .int .i64 v] w fun e w' => WEnd B w wb (out ++ numB (sgnN v)) e w' := by
  have hx : sgnN v ≤ 9223372036854775807 := by unfold sgnN; split <;> omega
  have HK := hide (number_any B w wb out (sgnN v) h hx hl hB)
  clear h hl
  by_cases hv : v < 0
  · have e : ((sgnN v : Nat) : Int) = -2 * v - 1 := by unfold sgnN; rw [if_pos hv]; omega
    rw [e] at HK
    clear e hx
    go_enter Try.func56, Try.ntmps56
    go_wp2_with (go_at_call 40; refine HK.out.mono ?_; rintro e1 w1 ⟨rfl, h1⟩)
    exact bodyPost_ret (results_none rfl _ _ _) rfl ⟨rfl, h1⟩
  · have e : ((sgnN v : Nat) : Int) = 2 * v := by unfold sgnN; rw [if_neg hv]; omega
    rw [e] at HK
    clear e hx
    go_enter Try.func56, Try.ntmps56
    go_wp2_with (go_at_call 40; refine HK.out.mono ?_; rintro e1 w1 ⟨rfl, h1⟩)
    exact bodyPost_end (results_none rfl _ _ _) rfl ⟨rfl, h1⟩

set_option maxRecDepth 20000 in
set_option maxHeartbeats 1000000 in
theorem flag_any (B : Nat) (w : World) (wb : Nat) (out : List Nat) (b : Bool) (h : WO B w wb out) (hl : (out ++ flgB b).length ≤ 1000000000) (hB : B ≤ w.heap.size) :
    Calls Try.prog 55 #[.pointer (some ⟨wb, 0, none⟩), .bool b] w fun e w' => WEnd B w wb (out ++ flgB b) e w' := by
  obtain ⟨iU, hiU, zU0, zU1, zU2⟩ := info_parts infoU8
  obtain ⟨v, hv⟩ := h
  obtain ⟨ao, cap, ev⟩ := hv.shape
  have hlen : out.length + 1 ≤ 1000000000 := by simpa [flgB] using hl
  have c0 := hv.cell
  have z0 := hv.free
  have hown := hv.own
  subst ev
  have HV := hide hv
  clear hv hl
  cases b
  · go_enter Try.func55, Try.ntmps55
    go_wp2_with (at_builtin; refine wpList_append_lies _ rfl _ _ 23 rfl B 5 iU (.int .u8 0) 1 1 Try.underlying23 hiU zU0 zU1 zU2 rfl (by decide) _ out.length _ rfl (hown.alloc _) ⟨w.heap.size, 0, none⟩ 1 1 (cL [0]) rfl rfl (news1 w 0 _) (cL_one _) (by decide) (by unfold maxLen; omega) (by omega) (by simp; omega) (w.heap.size + 1) (by simp) ?_; intro g9 cap9 w9 hown9 hgrow9 hat9 _; have y9 := (HV.out.at9 ((Fr.refl _ _).alloc _) hgrow9).1; have z9 := (HV.out.at9 ((Fr.refl _ _).alloc _) hgrow9).2; have HP9 := hide (HV.out.put (x := [0]) ((Fr.refl _ _).alloc _) (by simp) hown9 hgrow9 (hat9.imp id (fun e => by simp [e]))); clear hown9 hgrow9 hat9)
    exact bodyPost_end (results_none rfl _ _ _) rfl ⟨rfl, ⟨_, HP9.out.1⟩, HP9.out.2⟩
  · go_enter Try.func55, Try.ntmps55
    go_wp2_with (at_builtin; refine wpList_append_lies _ rfl _ _ 23 rfl B 5 iU (.int .u8 0) 1 1 Try.underlying23 hiU zU0 zU1 zU2 rfl (by decide) _ out.length _ rfl (hown.alloc _) ⟨w.heap.size, 0, none⟩ 1 1 (cL [1]) rfl rfl (news1 w 1 _) (cL_one _) (by decide) (by unfold maxLen; omega) (by omega) (by simp; omega) (w.heap.size + 1) (by simp) ?_; intro g9 cap9 w9 hown9 hgrow9 hat9 _; have y9 := (HV.out.at9 ((Fr.refl _ _).alloc _) hgrow9).1; have z9 := (HV.out.at9 ((Fr.refl _ _).alloc _) hgrow9).2; have HP9 := hide (HV.out.put (x := [1]) ((Fr.refl _ _).alloc _) (by simp) hown9 hgrow9 (hat9.imp id (fun e => by simp [e]))); clear hown9 hgrow9 hat9)
    exact bodyPost_ret (results_none rfl _ _ _) rfl ⟨rfl, ⟨_, HP9.out.1⟩, HP9.out.2⟩

theorem row_shape {w : World} {B : Nat} {e : TypeId} {size : Nat} {v : Value} {n : Nat} {xs : List Value} (h : w.ownsRow B e size v n xs) : ∃ ao cap, v = .slice ao n cap := by
  rcases h.2 with ⟨e, e0⟩ | ⟨g, cap, cur, e, _⟩
  · exact ⟨none, 0, by rw [e, e0]⟩
  · exact ⟨_, _, e⟩
theorem cL_str (s : ByteArray) : Lib.strCells s = cL (byL s.data.toList) := by
  simp [Lib.strCells, cL, byL]
theorem byL_len (s : ByteArray) : (byL s.data.toList).length = s.size := by
  simp [byL]
set_option maxRecDepth 20000 in
set_option maxHeartbeats 1000000 in
theorem text_any (B : Nat) (w : World) (wb : Nat) (out : List Nat) (s : ByteArray) (h : WO B w wb out) (hl : (out ++ txtB s).length ≤ 1000000000) (hB : B ≤ w.heap.size) :
    Calls Try.prog 54 #[.pointer (some ⟨wb, 0, none⟩), .string s] w fun e w' => WEnd B w wb (out ++ txtB s) e w' := by
  obtain ⟨iU, hiU, zU0, zU1, zU2⟩ := info_parts infoU8
  obtain ⟨o1, ho1⟩ : ∃ o1, o1 = out ++ numB s.size := ⟨_, rfl⟩
  have hl2 : o1.length + s.size ≤ 1000000000 := by
    have := byL_len s
    unfold txtB at hl
    rw [ho1]
    simp only [List.length_append] at hl ⊢
    omega
  have KN := number_any B w wb out s.size h (by omega) (by rw [← ho1]; omega) hB
  rw [← ho1] at KN
  have HK := hide KN
  have HEQ : Hid (out ++ txtB s = o1 ++ byL s.data.toList) := by unfold Hid txtB; rw [ho1, List.append_assoc]
  clear h hl KN ho1
  go_enter Try.func54, Try.ntmps54
  go_wp2_with (first
    | (go_at_call 40; refine HK.out.mono ?_; rintro e1 w1 ⟨rfl, ⟨v1, hv1⟩, F1⟩; obtain ⟨ao, cap, ev⟩ := hv1.shape; have c0 := hv1.cell; have z0 := hv1.free; have hown := hv1.own; have hB1 : B ≤ w1.heap.size := Nat.le_trans hB F1.fr.size; subst ev; have HV := hide hv1; have HF1 := hide F1; clear hv1 F1)
    | (at_builtin; refine Lib.wpList_append_own_string _ rfl _ _ 23 9 rfl B 5 iU Try.underlying23 Try.underlying9 hiU zU0 zU1 zU2 _ o1.length _ rfl hown s rfl (by unfold maxLen; omega) (by omega) hB1 ?_; intro v9 w9 hown9 hgrow9 _; obtain ⟨ao9, cap9, e9⟩ := row_shape hown9; subst e9; have y9 := (HV.out.at9 (Fr.refl _ _) hgrow9).1; have z9 := (HV.out.at9 (Fr.refl _ _) hgrow9).2; have HP9 := hide (HV.out.putV (x := byL s.data.toList) (Fr.refl _ _) (by rw [List.length_append, byL_len]) (by rw [← cL_str]; exact hown9) hgrow9); clear hown9 hgrow9))
  exact bodyPost_end (results_none rfl _ _ _) rfl ⟨rfl, ⟨_, by rw [HEQ.out]; exact HP9.out.1⟩, HF1.out.trans HP9.out.2⟩

end Go.Proofs.Ytilcigjhogcjkaa
