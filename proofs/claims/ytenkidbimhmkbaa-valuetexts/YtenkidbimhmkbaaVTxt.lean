/-
  What is proved here: a text that was laid is there, and stays; tandemlaw00's CopyBytes and SameBytes.
-/
import Derived.Test.YtenkidbimhmkbaaVTakeT2
import Derived.Test.YtenkidbimhmkbaaVText2
namespace Go.Proofs.Ytenkidbimhmkbaa
open Go Go.RowKit

theorem textAt_new {f : Nat → Nat} {st : Nat → Bool} {n : Nat} {g : Nat → Nat} {len : Nat} (hg : ∀ i, i < len → g i < 256) (hs : 1 + (len + 7) / 8 ≤ 1048576) : TextAt (tagF f n (hOf 3 0 (1 + (len + 7) / 8)) (textW g len) (1 + (len + 7) / 8)) (also st n) (4 * n) g len := by
  have e : 4 * n / 4 = n := by omega
  refine ⟨?_, ?_, fun i hi => ?_, hg, hs⟩
  · unfold isPtr
    rw [e, also_new, show 4 * n % 4 = 0 by omega]
    rfl
  · rw [e, tagF_head]
  · rw [e]
    unfold tagF
    rw [if_pos (by omega)]
    congr 1
    omega
theorem tagF_old {f : Nat → Nat} {n h : Nat} {r : Nat → Nat} {j i : Nat} (hi : i < n) : tagF f n h r j i = f i := by
  unfold tagF
  rw [if_neg (by omega), laid_old hi]
theorem TextAt.later {f : Nat → Nat} {st : Nat → Bool} {x : Nat} {g : Nat → Nat} {len : Nat} (h : TextAt f st x g len) {n' h' : Nat} {r : Nat → Nat} {j : Nat} (hb : x / 4 + 1 + (1 + (len + 7) / 8) ≤ n') : TextAt (tagF f n' h' r j) (also st n') x g len := by
  refine ⟨?_, ?_, fun i hi => ?_, h.byte, h.small⟩
  · have := isPtr_st h.ptr
    unfold isPtr also
    simp [this.1, this.2]
  · rw [tagF_old (by omega), h.head]
  · rw [tagF_old (by omega), h.word i hi]

theorem hcellsK_at {k : IntKind} {w : World} {b off l : Nat} {d : Nat → Nat} (hd : ∀ i, i < l → w.cell? ⟨b, off + i, none⟩ = some (.int k (d i))) : ∀ j z, (cellsOf k d l)[j]? = some z → w.cell? ((⟨b, off, none⟩ : Addr).add j) = some z := by
  intro j z hj
  rw [Addr.add_lit]
  by_cases e : j < l
  · rw [cellsOf_get _ _ _ _ e] at hj
    rw [hd j e]
    exact hj
  · rw [List.getElem?_eq_none (by rw [cellsOf_length]; omega)] at hj
    cases hj
theorem infoB' : (Try.prog.info? 5).map (fun i => (i.zero, i.size, i.bytes)) = some (some (.int .u8 0), 1, 1) := by kernel_rfl
theorem copyB_any (b off n cap : Nat) (f : Nat → Nat) (w : World) (h : ∀ i, i < n → w.cell? ⟨b, off + i, none⟩ = some (.int .u8 (f i : Int))) (hn : n ≤ 140737488355328) :
    Calls Try.prog 38 #[.slice (some ⟨b, off, none⟩) n cap] w fun e w' => ∃ v, e = .returned v ∧ Own .u8 5 w' w.heap.size v n f ∧ Fr (fun _ => False) w w' := by
  obtain ⟨i, hi, hz0, hz1, hz2⟩ := info_parts infoB'
  have hcs := cellsOf_length .u8 f n
  have hnil := World.ownsRow_nil w w.heap.size 5 1
  go_enter Try.func38, Try.ntmps38
  go_wp2_with (at_builtin; refine wpList_append_own _ rfl _ _ 38 rfl w.heap.size 5 i (.int .u8 0) 1 1 Try.underlying38 hi hz0 hz1 hz2 rfl (by decide) _ _ _ rfl hnil ⟨b, off, none⟩ n _ (cellsOf .u8 f n) rfl (by rw [hcs]; omega) (hcellsK_at h) (cellsOf_one _ _ _) (by unfold maxLen; omega) (by omega) (Nat.le_refl _) ?_; intro v' w1 hown hgrow hx; simp only [Nat.zero_add, List.nil_append] at hown)
  go_ret
  exact ⟨v', rfl, Own.of_row hown (fun j hj => cellsOf_get _ _ _ _ hj), (Fr.refl _ w).grow hgrow (fun k _ e => by cases e)⟩

theorem copyB_zero (a : Addr) (cap : Nat) (f : Nat → Nat) (w : World) :
    Calls Try.prog 38 #[.slice (some a) 0 cap] w fun e w' => ∃ v, e = .returned v ∧ Own .u8 5 w' w.heap.size v 0 f ∧ Fr (fun _ => False) w w' := by
  obtain ⟨i, hi, hz0, hz1, hz2⟩ := info_parts infoB'
  have hnil := World.ownsRow_nil w w.heap.size 5 1
  go_enter Try.func38, Try.ntmps38
  go_wp2_with (at_builtin; refine wpList_append_own _ rfl _ _ 38 rfl w.heap.size 5 i (.int .u8 0) 1 1 Try.underlying38 hi hz0 hz1 hz2 rfl (by decide) _ _ _ rfl hnil a 0 _ [] rfl rfl (fun j u hj => by simp at hj) (fun u hu => by simp at hu) (by decide) (by decide) (Nat.le_refl _) ?_; intro v' w1 hown hgrow hx; simp only [Nat.zero_add, List.nil_append] at hown)
  go_ret
  exact ⟨v', rfl, Own.of_row hown (fun j hj => by omega), (Fr.refl _ w).grow hgrow (fun k _ e => by cases e)⟩

theorem copyB_nil (f : Nat → Nat) (w : World) :
    Calls Try.prog 38 #[.slice none 0 0] w fun e w' => ∃ v, e = .returned v ∧ Own .u8 5 w' w.heap.size v 0 f ∧ Fr (fun _ => False) w w' := by
  go_enter Try.func38, Try.ntmps38
  go_wp2
  go_ret
  exact ⟨_, rfl, .inl ⟨rfl, rfl⟩, Fr.refl _ _⟩

/-- A list of m bytes that can be read: none, or at b. -/
def RdB (w : World) (v : Value) (m : Nat) (g : Nat → Nat) : Prop := (v = .slice none 0 0 ∧ m = 0) ∨ (∃ a cap, v = .slice (some a) 0 cap ∧ m = 0) ∨ ∃ b off cap, v = .slice (some ⟨b, off, none⟩) m cap ∧ m ≤ cap ∧ ∀ i, i < m → w.cell? ⟨b, off + i, none⟩ = some (.int .u8 (g i : Int))
theorem RdB.fr {w w' : World} {v : Value} {m : Nat} {g : Nat → Nat} (h : RdB w v m g) (F : Fr (fun _ => False) w w') : RdB w' v m g := by
  rcases h with e | e | ⟨b, off, cap, e1, e2, e3⟩
  · exact .inl e
  · exact .inr (.inl e)
  · exact .inr (.inr ⟨b, off, cap, e1, e2, fun i hi => (F.cell (World.block_lt_of_cell? _ _ (e3 i hi)) (fun e => e)).trans (e3 i hi)⟩)
theorem conv_zero (w : World) (a : Addr) (cap : Nat) (g : Nat → Nat) : (convert 38 9 (.slice (some a) 0 cap)).run Try.prog w = .ok (.string (strG g 0)) w := by
  have hl : (loadCells a 0).run Try.prog w = .ok #[] w := run_loadCells_list (P := Try.prog) w a [] (fun j v hj => by simp at hj)
  rw [run_convert_bytes_string w 38 9 5 _ 0 cap Try.underlying38 Try.underlying5 Try.underlying9, run_bytesToString w _ 0 cap [] hl]
  rfl
theorem RdB.conv {w : World} {v : Value} {m : Nat} {g : Nat → Nat} (h : RdB w v m g) : (convert 38 9 v).run Try.prog w = .ok (.string (strG g m)) w := by
  rcases h with ⟨rfl, rfl⟩ | ⟨a, cap, rfl, rfl⟩ | ⟨b, off, cap, rfl, e2, e3⟩
  · rw [run_convert_bytes_nil w 38 5 Try.underlying38 Try.underlying5 0 0 9 Try.underlying9]
    rfl
  · exact conv_zero w a cap g
  · exact conv_own e3
theorem RdB.copy {w : World} {v : Value} {m : Nat} {g : Nat → Nat} (h : RdB w v m g) (hm : m ≤ 140737488355328) :
    Calls Try.prog 38 #[v] w fun e w' => ∃ v, e = .returned v ∧ Own .u8 5 w' w.heap.size v m g ∧ Fr (fun _ => False) w w' := by
  rcases h with ⟨rfl, rfl⟩ | ⟨a, cap, rfl, rfl⟩ | ⟨b, off, cap, rfl, e2, e3⟩
  · exact copyB_nil g w
  · exact copyB_zero a cap g w
  · exact copyB_any b off m cap g w e3 hm
theorem RdB.shape {w : World} {v : Value} {m : Nat} {g : Nat → Nat} (h : RdB w v m g) : ∃ ao cap, v = .slice ao m cap := by
  rcases h with ⟨rfl, rfl⟩ | ⟨a, cap, rfl, rfl⟩ | ⟨b, off, cap, rfl, e2, e3⟩
  · exact ⟨_, _, rfl⟩
  · exact ⟨_, _, rfl⟩
  · exact ⟨_, _, rfl⟩
theorem Own.rdB {w : World} {base : Nat} {v : Value} {m : Nat} {g : Nat → Nat} (h : Own .u8 5 w base v m g) : RdB w v m g := by
  rcases h with e | ⟨b, cap, rfl, h1, h2, h3⟩
  · exact .inl e
  · exact .inr (.inr ⟨b, 0, cap, rfl, h3.le, fun i hi => by rw [Nat.zero_add]; exact h3.cell hi⟩)

theorem sameB_any (ao bo : Option Addr) (m ca cb : Nat) (g : Nat → Nat) (w : World) (ha : RdB w (.slice ao m ca) m g) (hb : RdB w (.slice bo m cb) m g) :
    Calls Try.prog 41 #[.slice ao m ca, .slice bo m cb] w fun e w' => e = .returned (.bool true) ∧ w' = w := by
  have k1 := ha.conv
  have k2 := hb.conv
  clear ha hb
  go_enter Try.func41, Try.ntmps41
  go_wp2
  go_ret
  exact ⟨rfl, rfl⟩

/-- Text of bytes in memory of the caller's own. -/
theorem text_own (w : World) (sb hb : Nat) (X : Nat → Prop) (sz : Nat) (tm : Int) (n : Nat) (f : Nat → Nat) (st : Nat → Bool) (v : Value) (base m : Nat) (g : Nat → Nat) (h : HeapAt w hb X sz tm n f st) (hS : w.cell? ⟨sb, 0, none⟩ = some (.pointer (some ⟨hb, 0, none⟩))) (hsX : ¬ X sb) (ho : Own .u8 5 w base v m g) (hX : ∀ k, X k → k < base) (hg : ∀ i, i < m → g i < 256) (hm : m ≤ 140737488351232) (hroom : n + 1 + 0 + (1 + (m + 7) / 8) ≤ sz) :
    Calls Try.prog 17 #[.pointer (some ⟨sb, 0, none⟩), v] w fun e w' => e = .returned (.tuple #[.int .u64 ((4 * n : Nat) : Int), .bool true]) ∧ ∃ X2, HeapAt w' hb X2 sz tm (n + 1 + 0 + (1 + (m + 7) / 8)) (tagF f n (hOf 3 0 (1 + (m + 7) / 8)) (textW g m) (1 + (m + 7) / 8)) (also st n) ∧ Grows w.heap.size X X2 ∧ Fr X w w' := by
  rcases ho with ⟨rfl, rfl⟩ | ⟨b, cap, rfl, h1, h2, h3⟩
  · exact text_yes w sb hb X sz tm n f st _ sb 0 0 0 g h hS hsX (.inl ⟨rfl, rfl⟩) hg (fun i hi => by omega) hsX hroom
  · exact text_yes w sb hb X sz tm n f st _ b 0 m cap g h hS hsX (.inr ⟨rfl, h3.le, hm⟩) hg (fun i hi => by rw [Nat.zero_add]; exact h3.cell hi) (fun e => by have := hX b e; omega) hroom

end Go.Proofs.Ytenkidbimhmkbaa
