/-
  What is proved here: package value's Num of a number beyond the fixnums. what ValueNumbers' calls leave, call by call: numbers' words, and numbers told of them.
-/
import Derived.Test.YtchdfenickjiiaaVNumW
import Derived.Deep.AppendLies
import Derived.Test.YtchdfenickjiiaaVFixD
import Derived.Test.YtchdfenickjiiaaVAwake
import Derived.Test.YtchdfenickjiiaaZD
namespace Go.Proofs.Ytchdfenickjiiaa
open Go Go.RowKit

/-- The limbs of words: the low one, the high one. -/
def limbW (r : Nat → Nat) (k : Nat) : Nat := if k % 2 = 0 then r (k / 2) % 4294967296 else r (k / 2) / 4294967296

/-- What the loop of Num keeps. -/
structure MgI (w : World) (sb : Bool) (r : Nat → Nat) (k : Nat) (v : Value) (W : World) : Prop where
  F : Fr (fun _ => False) w W
  b0 : W.heap[w.heap.size]? = some (.cells #[.bool false, .slice none 0 0] 45 (0, 0))
  b1 : W.heap[w.heap.size + 1]? = some (.cells #[.bool sb, v] 45 (0, 0))
  row : W.ownsRow (w.heap.size + 2) 57 1 v (2 * k) (cellsOf .u32 (limbW r) (2 * k))

theorem cells_two (w : World) (a b : Value) (E : TypeId) : ∀ j u, [a, b][j]? = some u → (w.alloc (.cells #[a, b] E)).cell? ((⟨w.heap.size, 0, none⟩ : Addr).add j) = some u := by
  intro j u hj
  match j, hj with
  | 0, hj =>
    cases hj
    exact cell_of_row _ _ 0 _ _ _ (heap_alloc_new w _)
  | 1, hj =>
    cases hj
    exact cell_of_row _ _ 1 _ _ _ (heap_alloc_new w _)
  | j + 2, hj => simp at hj

theorem MgI.push {w W w2 : World} {sb : Bool} {r : Nat → Nat} {k : Nat} {v v' : Value} {tmp : Obj} {z : Nat} (h : MgI w sb r k v W) (hz : z = r k) (ho : w2.ownsRow (w.heap.size + 2) 57 1 v' (2 * k + 2) (cellsOf .u32 (limbW r) (2 * k) ++ [.int .u32 ((z : Int) % 4294967296), .int .u32 ((z : Int) / 4294967296)])) (hg : (W.alloc tmp).grownBy w2 v.ownBlock) :
    w2.heap[w.heap.size + 1]? = some (.cells #[.bool sb, v] 45 (0, 0)) ∧ MgI w sb r (k + 1) v' (w2.setCell ⟨w.heap.size + 1, 1, none⟩ v') := by
  have hs := h.F.size
  have l1 := (Array.getElem?_eq_some_iff.1 h.b1).1
  have hne : ∀ g, v.ownBlock = some g → w.heap.size + 2 ≤ g := fun g hg' => by
    rcases h.row.2 with ⟨rfl, _⟩ | ⟨g', cap, cur, rfl, hb, _, _⟩
    · cases hg'
    · have e : g' = g := by simpa [Value.ownBlock] using hg'
      omega
  have FG : Fr (fun j => w.heap.size + 2 ≤ j) W w2 := ((Fr.refl _ W).alloc tmp).grow hg (fun j _ e => hne j e)
  have b1 := (FG.block _ l1 (by omega)).trans h.b1
  have b0 := (FG.block _ (by omega) (by omega)).trans h.b0
  have FS : Fr (fun j => j = w.heap.size + 1) w2 (w2.setCell ⟨w.heap.size + 1, 1, none⟩ v') := Fr.setCell (S := fun j => j = w.heap.size + 1) (Fr.refl _ _) (fun _ => rfl) _ _
  refine ⟨b1, Fr.trans (Fr.trans h.F FG (fun j hj e => by omega)) FS (fun j hj e => by omega), (FS.block _ (Array.getElem?_eq_some_iff.1 b0).1 (by omega)).trans b0, heap_setCell_same w2 _ 1 _ _ _ b1, ?_⟩
  have e1 : cellsOf .u32 (limbW r) (2 * (k + 1)) = cellsOf .u32 (limbW r) (2 * k) ++ [.int .u32 ((z : Int) % 4294967296), .int .u32 ((z : Int) / 4294967296)] := by
    subst hz
    rw [show 2 * (k + 1) = 2 * k + 1 + 1 by omega]
    unfold cellsOf
    rw [List.range_succ, List.range_succ, List.map_append, List.map_append, List.append_assoc]
    congr 1
    simp only [List.map_cons, List.map_nil, List.cons_append, List.nil_append, limbW]
    rw [if_pos (by omega), if_neg (by omega), show 2 * k / 2 = k by omega, show (2 * k + 1) / 2 = k by omega]
    rfl
  rw [e1, show 2 * (k + 1) = 2 * k + 2 by omega]
  refine ho.kept (row := some (w.heap.size + 1)) ⟨rfl, rfl, rfl, FS.size, fun j hj hne2 => FS.block j hj (fun e => hne2 (by rw [e]))⟩ ?_
  rcases ho.2 with ⟨rfl, e⟩ | ⟨g', cap, cur, rfl, hb, _, _⟩
  · exact .inl rfl
  · exact .inr (fun e => by have : g' = w.heap.size + 1 := (by simpa [Value.ownBlock] using e); omega)


theorem limbW_at {g : Nat → Nat} {len i : Nat} (hd : ∀ i, i < len → g i < 4294967296) (hi : i < len) : limbW (wordU g len) i = g i := by
  have h1 := hd i hi
  unfold limbW wordU
  by_cases e : i % 2 = 0
  · rw [if_pos e]
    split
    · rw [show 2 * (i / 2) = i by omega]
      omega
    · rw [show 2 * (i / 2) = i by omega]
      omega
  · have h2 := hd (2 * (i / 2)) (by omega)
    rw [if_neg e, if_pos (by omega), show 2 * (i / 2) + 1 = i by omega]
    omega
theorem limbW_end {g : Nat → Nat} {len : Nat} (hd : ∀ i, i < len → g i < 4294967296) (h : len % 2 = 1) : limbW (wordU g len) len = 0 := by
  have h2 := hd (2 * (len / 2)) (by omega)
  unfold limbW wordU
  rw [if_neg (by omega), if_neg (by omega)]
  omega
theorem vnum_rd {wr wf : World} {S : Nat → Prop} {gv len M cv : Nat} {g : Nat → Nat} {s : Bool} (hcell : ∀ i, i < M → wr.cell? ⟨gv, i, none⟩ = some (.int .u32 (limbW (wordU g len) i : Int))) (F : Fr S wr wf) (hS : ¬ S gv) (hc : Can 4294967296 g len) (h2 : 2 ≤ len) (hl : len ≤ 256) (hM : len ≤ M) (hcv : len ≤ cv) (hcv2 : cv ≤ 9223372036854775807) :
    RdC (sgn s (num 4294967296 g len)) 256 wf (.agg #[.bool s, .slice (some ⟨gv, 0, none⟩) len cv]) := by
  refine ⟨s, len, g, ⟨_, rfl, some ⟨gv, 0, none⟩, cv, rfl, hcv, hcv2, (fun e => by cases e), .inr ⟨gv, 0, rfl, fun i hi => ?_⟩⟩, ⟨hc, fun _ => by omega⟩, hl, rfl⟩
  have h1 := hcell i (by omega)
  rw [limbW_at hc.1 hi] at h1
  rw [Nat.zero_add]
  exact (F.cell (World.block_lt_of_cell? _ _ h1) hS).trans h1
theorem u32w (x : Int) : IntKind.u32.wrap x = x % 4294967296 := by
  simp only [IntKind.wrap, IntKind.bits, IntKind.signed]
  simp
theorem MgI.drewN {w W : World} {sb : Bool} {r : Nat → Nat} {k : Nat} {v : Value} (h : MgI w sb r k v W) (q : Nat) : MgI w sb r k v (W.drewN q) := ⟨h.F.drewN q, h.b0, h.b1, h.row⟩
theorem MgI.start (w : World) (s : Bool) (r : Nat → Nat) (q : Nat) : MgI w s r 0 (.slice none 0 0) (((w.alloc (.cells #[.bool false, .slice none 0 0] 45)).drewN q).alloc (.cells #[.bool s, .slice none 0 0] 45)) := by
  refine ⟨(((Fr.refl _ w).alloc _).drewN q).alloc _, ?_, ?_, ⟨rfl, .inl ⟨rfl, rfl⟩⟩⟩
  · exact (heap_alloc_old _ _ w.heap.size (by simp)).trans (heap_alloc_new w _)
  · have := heap_alloc_new ((w.alloc (.cells #[.bool false, .slice none 0 0] 45)).drewN q) (.cells #[.bool s, .slice none 0 0] 45)
    simpa using this

set_option maxRecDepth 20000 in
set_option maxHeartbeats 4000000 in
theorem vnum_big (w : World) (sb hb : Nat) (X : Nat → Prop) (sz : Nat) (tm : Int) (n : Nat) (f : Nat → Nat) (st : Nat → Bool) (q : Nat) (s : Bool) (g : Nat → Nat) (len : Nat) (h : HeapAt w hb X sz tm n f st) (hS : w.cell? ⟨sb, 0, none⟩ = some (.pointer (some ⟨hb, 0, none⟩))) (B1 : BigW n f st q (if s then 1 else 0) g len) (hz : ¬ (-2305843009213693952 ≤ sgn s (num 4294967296 g len) ∧ sgn s (num 4294967296 g len) < 2305843009213693952)) :
    Calls Try.prog 27 #[.pointer (some ⟨sb, 0, none⟩), .int .u64 ((4 * q : Nat) : Int)] w fun e w' => ∃ v, e = .returned (.tuple #[v, .bool true]) ∧ RdC (sgn s (num 4294967296 g len)) 256 w' v ∧ Up w w' := by
  have hl2 := big_len B1.can hz
  have hl := B1.len
  have hsl : sb < w.heap.size := World.block_lt_of_cell? _ _ hS
  obtain ⟨K, hK⟩ : ∃ K, K = (len + 1) / 2 := ⟨_, rfl⟩
  obtain ⟨x, hx⟩ : ∃ x, x = 4 * q := ⟨_, rfl⟩
  have hxl : x < 18446744073709551616 := by rw [hx]; exact B1.lt
  have KI := fun w1 => vint_any x w1 hxl
  rw [if_neg (by omega)] at KI
  have KB := fun w1 (F : Fr (fun _ => False) w w1) => isBig_yes w1 sb hb X sz tm n f st (4 * q) _ _ _ (h.fr F (fun _ _ e => e)) ((F.cell hsl (fun e => e)).trans hS) B1.lt (B1.at hz)
  have KN := fun w1 (F : Fr (fun _ => False) w w1) => heapRaws_any w1 hb X sz tm n f st (4 * q) (h.fr F (fun _ _ e => e)) B1.lt
  rw [B1.raws] at KN
  have KR := fun w1 (F : Fr (fun _ => False) w w1) i (hi : i < 1 + (len + 1) / 2) => (by have := vraw_any w1 sb hb X sz tm n f st (4 * q) i (h.fr F (fun _ _ e => e)) ((F.cell hsl (fun e => e)).trans hS) B1.lt; rw [B1.rawAt hi] at this; exact this : Calls _ _ _ w1 _)
  rw [← hx, ← hK] at KN KR
  rw [← hx] at KB ⊢
  have HB := hide KB
  have HN := hide KN
  have HR := hide KR
  have KR0 := fun w1 F => KR w1 F 0 (by omega)
  obtain ⟨sv, hsv⟩ : ∃ sv, sv = numR (if s = true then 1 else 0) g len 0 := ⟨_, rfl⟩
  rw [← hsv] at KR0
  have HR0 := hide KR0
  have hs1 : ((sv : Int) == 1) = s := by rw [hsv]; cases s <;> rfl
  have HC := hide B1.can
  have HX := hide hx
  have HK := hide hK
  obtain ⟨i0, hi0, hz0, hz1, hz2⟩ := info_parts infoU
  clear KB KN KR KR0 h B1 hx hK hsv
  go_enter Try.func27, Try.ntmps27
  go_wp2_with (first
    | (go_at_call 12; refine (KI _).mono ?_; rintro e w1 ⟨rfl, hw⟩; replace hw := hw.symm; subst hw)
    | (go_at_call 66; refine (HB.out _ ((Fr.refl _ w).alloc _)).mono ?_; rintro e w1 ⟨rfl, q1, rfl⟩)
    | (go_at_call 70; refine (HR0.out _ (((Fr.refl _ w).alloc _).drewN _)).mono ?_; rintro e w2 ⟨rfl, q2, rfl⟩))
  go_loopw [9] (fun i wr => ∃ k v, k ≤ K ∧ i = .int .i64 ((k + 1 : Nat) : Int) ∧ MgI w s (wordU g len) k v wr) (fun i _ => K + 2 - (intOf i).toNat)
  case atStart => exact ⟨0, _, Nat.zero_le _, rfl, MgI.start w s (wordU g len) (q1 + q2)⟩
  case round =>
    obtain ⟨k, v, hk, rfl, hI⟩ := hrel
    have c0 := (hI.F.cell (o := 0) hsl (fun e => e)).trans hS
    have KN := HN.out wr hI.F
    obtain ⟨z0, z1, c1, c2⟩ := fz2 hI.b1
    have hwr : w.heap.size + 2 ≤ wr.heap.size := (Array.getElem?_eq_some_iff.1 hI.b1).1
    by_cases hlt : k < K
    · have KR := fun w1 F => HR.out w1 F (k + 1) (by omega)
      have hnR : numR (if s = true then 1 else 0) g len (k + 1) = wordU g len k := by unfold numR; rw [if_neg (by omega), Nat.add_sub_cancel]
      rw [hnR] at KR
      obtain ⟨z, hz⟩ : ∃ z, z = wordU g len k := ⟨_, rfl⟩
      rw [← hz] at KR
      have hzl : z < 18446744073709551616 := by rw [hz]; exact wordU_lt HC.out.1 (by have := HK.out; omega)
      have hlo : IntKind.u32.wrap (z : Int) = ((z % 4294967296 : Nat) : Int) := by rw [u32w]; omega
      have hlo2 : IntKind.u32.wrap ((z / 4294967296 : Nat) : Int) = ((z / 4294967296 : Nat) : Int) := by rw [u32w]; omega
      have hlt2 : ((k + 1 : Nat) : Int) < ((1 + K : Nat) : Int) := by omega
      have hkl : k ≤ 200 := by have := HK.out; omega
      have HKN := hide KN
      have HKR := hide KR
      have HI := hide hI
      have HZ := hide hz
      have HRow := hide hI.row
      clear KN KR hI hz hnR
      go_wp2_with (first
        | (go_at_call 71; refine HKN.out.mono ?_; rintro e w3 ⟨rfl, q3, rfl⟩)
        | (go_at_call 70; refine (HKR.out _ (HI.out.F.drewN _)).mono ?_; rintro e w4 ⟨rfl, q4, rfl⟩)
        | (at_builtin; have HI2 := hide (HI.out.drewN (q3 + q4)); refine wpList_append_lies _ rfl _ _ 43 rfl (w.heap.size + 2) 57 i0 (.int .u32 0) 1 4 Try.underlying43 hi0 hz0 hz1 hz2 rfl (by decide) _ _ _ rfl (HI2.out.row.alloc _) ⟨wr.heap.size, 0, none⟩ 2 2 [.int .u32 ((z : Int) % 4294967296), .int .u32 ((z : Int) / 4294967296)] rfl rfl (cells_two _ _ _ _) (fun u hu => by simp at hu; rcases hu with rfl | rfl <;> rfl) (by decide) (by unfold maxLen; omega) (by omega) (by simp; omega) (wr.heap.size + 1) (by simp) ?_; intro g9 cap9 w9 hown9 hgrow9 _ _; obtain ⟨b9, M9⟩ := HI2.out.push HZ.out hown9 hgrow9; obtain ⟨y0, y1, y2, y3⟩ := fz2 b9; have HM := hide M9; clear hown9 hgrow9 M9 b9))
      refine ⟨⟨k + 1, _, hlt, by go_num, HM.out⟩, ?_⟩
      simp [intOf]
      omega
    · have hkK : k = K := by omega
      subst hkK
      have hk1 : 1 ≤ k := by have := HK.out; omega
      obtain ⟨y0, y1, y2, y3⟩ := fz2 hI.b0
      obtain ⟨gv, cv, rfl, hgv, _⟩ := World.ownsRow.form hI.row (by omega)
      have hO := Own.of_row hI.row (fun i hi => cellsOf_get _ _ _ _ hi)
      have hlt2 : ¬ ((k + 1 : Nat) : Int) < ((1 + k : Nat) : Int) := by omega
      have HKN := hide KN
      have HI := hide hI
      have hcell : ∀ i, i < 2 * k → wr.cell? ⟨gv, i, none⟩ = some (.int .u32 (limbW (wordU g len) i : Int)) := fun i hi => by
        rcases hO with ⟨e, _⟩ | ⟨g', cap', e, _, _, row⟩
        · cases e
        · cases e
          exact row.cell hi
      obtain ⟨m, hm⟩ : ∃ m, m + 1 = 2 * k := ⟨2 * k - 1, by omega⟩
      have hmI : (2 : Int) * (k : Int) = (m : Int) + 1 := by omega
      have cx := hcell m (by omega)
      rw [← hm] at c2
      obtain ⟨lv, hlv⟩ : ∃ lv, lv = limbW (wordU g len) m := ⟨_, rfl⟩
      rw [← hlv] at cx
      have hcv : m + 1 ≤ cv := by
        rcases hO with ⟨e, _⟩ | ⟨g', cap', e, _, _, row⟩
        · cases e
        · cases e
          have := row.le
          omega
      have hcv2 : cv ≤ 9223372036854775807 := by
        rcases hO with ⟨e, _⟩ | ⟨g', cap', e, _, hh, row⟩
        · cases e
        · cases e
          exact hh
      have HCell := hide hcell
      have HL := hide hlv
      have hml : m ≤ 300 := by have := HK.out; omega
      have HM := hide hm
      clear KN hI hO hcell hlv hm hmI
      by_cases h0 : lv = 0
      · have h0b : ((lv : Int) == 0) = true := by rw [h0]; rfl
        have hlm : len = m := by
          have e1 := HL.out
          have e2 := HM.out
          have e3 := HK.out
          rcases HC.out.2 with e4 | e4
          · omega
          · by_cases e5 : len = m
            · exact e5
            · exact absurd ((limbW_at HC.out.1 (show m < len by omega)).symm.trans (e1.symm.trans h0)) (by rw [show m = len - 1 by omega]; exact e4)
        have HLM := hide hlm
        clear h0 hlm
        go_wp2_with (go_at_call 71; refine HKN.out.mono ?_; rintro e w3 ⟨rfl, q3, rfl⟩)
        have FA : Fr (fun j => j = w.heap.size + 1) (wr.drewN q3) ((wr.drewN q3).setCell ⟨w.heap.size + 1, 1, none⟩ (.slice (some ⟨gv, 0, none⟩) m cv)) := Fr.setCell (S := fun j => j = w.heap.size + 1) (Fr.refl _ _) (fun _ => rfl) _ _
        have bA := (FA.block w.heap.size (by show w.heap.size < wr.heap.size; omega) (by omega)).trans (show (wr.drewN q3).heap[w.heap.size]? = _ from HI.out.b0)
        generalize (wr.drewN q3).setCell ⟨w.heap.size + 1, 1, none⟩ (.slice (some ⟨gv, 0, none⟩) m cv) = wA at *
        obtain ⟨b4, F4⟩ := stoF2 bA (.bool s) (.slice (some ⟨gv, 0, none⟩) m cv)
        generalize ((wA.setCell ⟨w.heap.size, 0, none⟩ (.bool s)).setCell ⟨w.heap.size, 1, none⟩ (.slice (some ⟨gv, 0, none⟩) m cv)) = wf at *
        have zz := fz2 b4
        refine bodyPost_ret (by simp [results, Try.results27, go_sem, zz.2.2.1, zz.2.2.2]; rfl) rfl ?_
        have hlm := HLM.out
        subst hlm
        have FF : Fr (fun j => j = w.heap.size ∨ j = w.heap.size + 1) wr wf := Fr.trans (Fr.trans ((Fr.refl _ wr).drewN q3) (FA.mono (fun _ _ e => Or.inr e)) (fun _ _ e => e)) F4 (fun _ _ e => .inl e)
        refine ⟨_, rfl, vnum_rd HCell.out FF (by omega) HC.out hl2 hl (by have := HM.out; omega) (by omega) hcv2, (Fr.trans HI.out.F FF (fun j hj e => by rcases e with e | e <;> omega)).up⟩
      · have h0b : ((lv : Int) == 0) = false := by rw [beq_eq_false_iff_ne]; omega
        have hlm : len = m + 1 := by
          have e1 := HL.out
          have e2 := HM.out
          have e3 := HK.out
          by_cases e5 : len = m + 1
          · exact e5
          · exact absurd (e1.trans (by rw [show m = len by omega]; exact limbW_end HC.out.1 (by omega))) h0
        have HLM := hide hlm
        clear h0 hlm
        go_wp2_with (go_at_call 71; refine HKN.out.mono ?_; rintro e w3 ⟨rfl, q3, rfl⟩)
        obtain ⟨b4, F4⟩ := stoF2 (show (wr.drewN q3).heap[w.heap.size]? = _ from HI.out.b0) (.bool s) (.slice (some ⟨gv, 0, none⟩) (m + 1) cv)
        generalize (((wr.drewN q3).setCell ⟨w.heap.size, 0, none⟩ (.bool s)).setCell ⟨w.heap.size, 1, none⟩ (.slice (some ⟨gv, 0, none⟩) (m + 1) cv)) = wf at *
        have zz := fz2 b4
        refine bodyPost_ret (by simp [results, Try.results27, go_sem, zz.2.2.1, zz.2.2.2]; rfl) rfl ?_
        have hlm := HLM.out
        subst hlm
        have FF : Fr (fun j => j = w.heap.size) wr wf := Fr.trans ((Fr.refl _ wr).drewN q3) F4 (fun _ _ e => e)
        refine ⟨_, rfl, vnum_rd HCell.out FF (by omega) HC.out hl2 hl (by have := HM.out; omega) hcv hcv2, (Fr.trans HI.out.F FF (fun j hj e => by omega)).up⟩

/-- A number's limbs without zeros ahead. -/
theorem can_trim (f : Nat → Nat) : ∀ n, (∀ i, i < n → f i < 4294967296) → ∃ m, m ≤ n ∧ Can 4294967296 f m ∧ num 4294967296 f m = num 4294967296 f n
  | 0, _ => ⟨0, Nat.le_refl _, ⟨fun i hi => absurd hi (Nat.not_lt_zero i), .inl rfl⟩, rfl⟩
  | n + 1, h => by
    by_cases e : f n = 0
    · obtain ⟨m, h1, h2, h3⟩ := can_trim f n (fun i hi => h i (by omega))
      exact ⟨m, by omega, h2, by rw [h3, num_succ, e, Nat.zero_mul, Nat.add_zero]⟩
    · exact ⟨n + 1, Nat.le_refl _, ⟨h, .inr e⟩, rfl⟩
/-- All ways to write Z without zeros ahead have at most 256 limbs; or all have more. -/
def Lim (Z : Int) : Prop := ∀ b g len, CanZ b g len → sgn b (num 4294967296 g len) = Z → len ≤ 256
def Far (Z : Int) : Prop := ∀ b g len, CanZ b g len → sgn b (num 4294967296 g len) = Z → 256 < len
theorem canz_len {b c : Bool} {f g : Nat → Nat} {n m : Nat} (ca : CanZ b f n) (cu : CanZ c g m) (h : sgn b (num 4294967296 f n) = sgn c (num 4294967296 g m)) : b = c ∧ n = m ∧ ∀ i, i < n → f i = g i := by
  have hb := sgn_sign ca cu h
  subst hb
  have := can_uniq (by decide) ca.1 cu.1 (sgn_inj h)
  exact ⟨rfl, this.1, this.2⟩
theorem lim_or {Z : Int} {M : Nat} {w : World} {a : Value} (h : RdD Z M w a) : Lim Z ∨ Far Z := by
  obtain ⟨b, n, f, _, hd, _, hz⟩ := h
  obtain ⟨m, _, h2, h3⟩ := can_trim f n hd
  have hc : CanZ (b && !decide (m = 0)) f m := CanZ.of h2
  have hs : sgn (b && !decide (m = 0)) (num 4294967296 f m) = Z := by rw [sgn_cut, h3, hz]
  rcases Nat.lt_or_ge 256 m with h4 | h4
  · exact .inr fun b' g len c' s' => by rw [← (canz_len hc c' (by rw [hs, s'])).2.1]; exact h4
  · exact .inl fun b' g len c' s' => by rw [← (canz_len hc c' (by rw [hs, s'])).2.1]; exact h4
theorem far_big {Z : Int} {M : Nat} {w : World} {a : Value} (h : RdD Z M w a) (hf : Far Z) : ¬ (-2305843009213693952 ≤ Z ∧ Z < 2305843009213693952) := by
  obtain ⟨b, n, f, _, hd, _, hz⟩ := h
  obtain ⟨m, _, h2, h3⟩ := can_trim f n hd
  have hc : CanZ (b && !decide (m = 0)) f m := CanZ.of h2
  have hs : sgn (b && !decide (m = 0)) (num 4294967296 f m) = Z := by rw [sgn_cut, h3, hz]
  have hm := hf _ _ _ hc hs
  have hg : 4294967296 ^ (m - 1) ≤ num 4294967296 f m := num_ge (by omega) (by rcases h2.2 with e | e; omega; exact e)
  have hp : 4294967296 ^ 2 ≤ 4294967296 ^ (m - 1) := Nat.pow_le_pow_right (by decide) (by omega)
  have h9 : 4294967296 ^ 2 = 18446744073709551616 := by decide
  rcases sgn_abs (b && !decide (m = 0)) (num 4294967296 f m) with ⟨e, _⟩ | ⟨e, _⟩ <;> rw [e] at hs <;> omega

theorem number_any (w : World) (sb hb : Nat) (X : Nat → Prop) (sz : Nat) (tm : Int) (n : Nat) (f : Nat → Nat) (st : Nat → Bool) (a : Value) (M : Nat) (Z : Int) (h : HeapAt w hb X sz tm n f st) (hS : w.cell? ⟨sb, 0, none⟩ = some (.pointer (some ⟨hb, 0, none⟩))) (hsX : ¬ X sb) (ha : RdD Z M w a) (hM4 : 4 * (M + 1) ≤ 281474976710656) (hl : Lim Z) (hroom : n + 130 ≤ sz) :
    Calls Try.prog 21 #[.pointer (some ⟨sb, 0, none⟩), a] w fun e w' => ∃ (x : Nat) (X' : Nat → Prop) (n' : Nat) (f' : Nat → Nat) (st' : Nat → Bool), e = .returned (.tuple #[.int .u64 (x : Int), .bool true]) ∧ Numb w hb X sz tm n f st Z x w' X' n' f' st' := by
  by_cases hz : -2305843009213693952 ≤ Z ∧ Z < 2305843009213693952
  · exact number_small w sb hb X sz tm n f st a M Z h ha hz
  · exact number_big w sb hb X sz tm n f st a M Z h hS hsX ha hM4 hz hl hroom

theorem limbs_rd {w : World} {L : Nat} {z : Int} (h : Limbs w L z) (hz : z.natAbs < 18446744073709551616) : RdC z 2 w (.agg #[.bool (decide (z < 0)), .slice (some ⟨L, 0, none⟩) (lenZ z) 2]) := by
  obtain ⟨lo, hlo⟩ : ∃ lo, lo = z.natAbs % 4294967296 := ⟨_, rfl⟩
  obtain ⟨hi, hhi⟩ : ∃ hi, hi = z.natAbs / 4294967296 := ⟨_, rfl⟩
  have hv : z.natAbs = lo + hi * 4294967296 := by omega
  unfold Limbs at h
  unfold lenZ
  rw [← hlo, ← hhi] at h ⊢
  have hcell : ∀ i, i < 2 → w.cell? ⟨L, 0 + i, none⟩ = some (.int .u32 ((if i = 0 then lo else hi : Nat) : Int)) := fun i h2 => by
    match i, h2 with
    | 0, _ => exact cell_of_row w L 0 _ _ _ h
    | 1, _ => exact cell_of_row w L 1 _ _ _ h
  obtain ⟨l, hl, hc⟩ : ∃ l, l = len2 lo hi ∧ ((l = 0 ∧ lo = 0 ∧ hi = 0) ∨ (l = 1 ∧ lo ≠ 0 ∧ hi = 0) ∨ (l = 2 ∧ hi ≠ 0)) := by
    refine ⟨_, rfl, ?_⟩
    unfold len2
    by_cases e : hi = 0
    · by_cases e2 : lo = 0 <;> simp [e, e2]
    · simp [e]
  rw [← hl]
  have hl2 : l ≤ 2 := by omega
  refine ⟨decide (z < 0), l, fun i => if i = 0 then lo else hi, ⟨_, rfl, some ⟨L, 0, none⟩, 2, rfl, hl2, by decide, (fun e => by cases e), .inr ⟨L, 0, rfl, fun i h2 => hcell i (by omega)⟩⟩, ⟨⟨fun i h2 => ?_, ?_⟩, ?_⟩, hl2, ?_⟩
  · show (if i = 0 then lo else hi) < _
    split <;> omega
  · rcases hc with ⟨rfl, _⟩ | ⟨rfl, e, _⟩ | ⟨rfl, e⟩
    · exact .inl rfl
    · exact .inr (by simpa using e)
    · exact .inr (by simpa using e)
  · intro e
    have e2 : z < 0 := of_decide_eq_true e
    omega
  · have hn : num 4294967296 (fun i => if i = 0 then lo else hi) l = z.natAbs := by
      rw [hv]
      rcases hc with ⟨rfl, e, e'⟩ | ⟨rfl, e, e'⟩ | ⟨rfl, e⟩
      · simp [num, e, e']
      · simp [num, e']
      · simp [num]
    rw [hn]
    rcases sgn_abs (decide (z < 0)) z.natAbs with ⟨e, e2⟩ | ⟨e, e2⟩
    · have := of_decide_eq_false e2
      rw [e]
      omega
    · have := of_decide_eq_true e2
      rw [e]
      omega

/-- Num of a number's word. -/
theorem vnum_any (w : World) (sb hb : Nat) (X : Nat → Prop) (sz : Nat) (tm : Int) (n : Nat) (f : Nat → Nat) (st : Nat → Bool) (x : Nat) (Z : Int) (h : HeapAt w hb X sz tm n f st) (hS : w.cell? ⟨sb, 0, none⟩ = some (.pointer (some ⟨hb, 0, none⟩))) (hx : NumW n f st x Z) :
    Calls Try.prog 27 #[.pointer (some ⟨sb, 0, none⟩), .int .u64 (x : Int)] w fun e w' => ∃ v, e = .returned (.tuple #[v, .bool true]) ∧ RdC Z 256 w' v ∧ Up w w' := by
  rcases hx with ⟨x1, x2, x3⟩ | ⟨q, s1, g, len, rfl, B1, z1, o1⟩
  · have hr := intW_in x1
    rw [x3] at hr
    refine (num_fix w sb x Z x1 x2 x3.symm).mono fun e w' he => ?_
    obtain ⟨L, h1, h2, _, h4⟩ := he
    obtain ⟨b, m, g, k1, k2, k3, k4⟩ := limbs_rd h2 (by omega)
    exact ⟨_, h1, ⟨b, m, g, k1, k2, by omega, k4⟩, h4.up⟩
  · subst z1
    exact vnum_big w sb hb X sz tm n f st q s1 g len h hS B1 o1

/-- What stands between the calls. -/
structure VN (w : World) (ba : Bool) (va : Value) (bu : Bool) (vu : Value) (sb hb : Nat) (X : Nat → Prop) (n : Nat) (f : Nat → Nat) (st : Nat → Bool) (W : World) : Prop where
  U : Below w.heap.size w W
  xa : W.heap[w.heap.size]? = some (.cells #[.bool ba, va] 45 (0, 0))
  xu : W.heap[w.heap.size + 1]? = some (.cells #[.bool bu, vu] 45 (0, 0))
  H : HeapAt W hb X 4000 0 n f st
  S : W.cell? ⟨sb, 0, none⟩ = some (.pointer (some ⟨hb, 0, none⟩))
  nX : ¬ X sb
  lo : ∀ k, X k → w.heap.size + 2 ≤ k
theorem VN.up {w W W' : World} {ba : Bool} {va : Value} {bu : Bool} {vu : Value} {sb hb : Nat} {X : Nat → Prop} {n : Nat} {f : Nat → Nat} {st : Nat → Bool} (h : VN w ba va bu vu sb hb X n f st W) (u : Up W W') : VN w ba va bu vu sb hb X n f st W' :=
  ⟨h.U.trans (u.mono h.U.size), u.blk h.xa, u.blk h.xu, h.H.fr u.fr (fun _ _ e => e), (u.fr.cell (World.block_lt_of_cell? _ _ h.S) (fun e => e)).trans h.S, h.nX, h.lo⟩
theorem VN.numb {w W W' : World} {ba : Bool} {va : Value} {bu : Bool} {vu : Value} {sb hb : Nat} {X X' : Nat → Prop} {n n' : Nat} {f f' : Nat → Nat} {st st' : Nat → Bool} {Z : Int} {x : Nat} (h : VN w ba va bu vu sb hb X n f st W) (k : Numb W hb X 4000 0 n f st Z x W' X' n' f' st') : VN w ba va bu vu sb hb X' n' f' st' W' := by
  have hs := h.U.size
  have l1 := (Array.getElem?_eq_some_iff.1 h.xa).1
  have l2 := (Array.getElem?_eq_some_iff.1 h.xu).1
  refine ⟨h.U.trans (k.F.below hs (fun j hj e => by have := h.lo j e; omega)), (k.F.block _ l1 (fun e => by have := h.lo _ e; omega)).trans h.xa, (k.F.block _ l2 (fun e => by have := h.lo _ e; omega)).trans h.xu, k.H, (k.F.cell (World.block_lt_of_cell? _ _ h.S) h.nX).trans h.S, fun e => ?_, fun j e => ?_⟩
  · rcases k.G sb e with e | e
    · exact h.nX e
    · have := World.block_lt_of_cell? _ _ h.S
      have : sb < W.heap.size := this
      omega
  · rcases k.G j e with e | e
    · exact h.lo j e
    · omega

end Go.Proofs.Ytchdfenickjiiaa
