/-
  What is proved here: what the writer writes as numbers, texts and rows the reader's model reads as they are; no walk. what the writer writes as data the reader's model reads as it is; no walk. what the writer writes as a datum the reader's model reads as it is; no walk. what the writer writes as a program the reader's model reads as it is; no walk. what the reader's model reads of bytes it reads of them with more behind, which it leaves; no walk. bytes of a program with more behind them are none, and none cut off; no walk. bytes that were written lie there to be read, and are bytes; sizes of what came in; no walk. what is read is written as just the bytes that it was read from; no walk. what is read is written as just the bytes that it was read from: data, protos, programs; no walk.
-/
import Derived.Test.YtilcigjhogcjkaaPRC
import Derived.Test.YtilcigjhogcjkaaPRReadM
namespace Go.Proofs.Ytilcigjhogcjkaa
open Go Go.RowKit

theorem rdG_numB : ∀ (f i acc v : Nat) (t : List Nat), v < 128 ^ f → v < 128 ^ 10 → 0 < v ∨ i = 0 → acc + v * 128 ^ i ≤ 1099511627776 → 1 ≤ f → rdG f i acc (numB v ++ t) = some (acc + v * 128 ^ i, t)
  | 0, _, _, _, _, _, _, _, _, h => by omega
  | f + 1, i, acc, v, t, hv, hv2, h0, hs, _ => by
    by_cases h1 : v < 128
    · rw [numB_lt h1, List.singleton_append, rdG_cons, if_pos h1, if_pos ⟨h0, hs⟩]
    · rw [numB_ge (by omega) hv2, List.cons_append, rdG_cons, if_neg (by omega)]
      have e : acc + (v % 128 + 128) % 128 * 128 ^ i + v / 128 * 128 ^ (i + 1) = acc + v * 128 ^ i := by
        have e1 : (v % 128 + 128) % 128 = v % 128 := by omega
        rw [e1, Nat.pow_succ]
        have e2 : v * 128 ^ i = (v % 128 + 128 * (v / 128)) * 128 ^ i := by rw [Nat.mod_add_div]
        rw [e2, Nat.add_mul, Nat.add_assoc, Nat.mul_comm (v / 128) (128 ^ i * 128), Nat.mul_assoc (128 ^ i) 128 (v / 128), Nat.mul_comm (128 ^ i) (128 * (v / 128))]
      have hf : 1 ≤ f := by
        cases f with
        | zero => rw [Nat.zero_add, Nat.pow_one] at hv; omega
        | succ f => omega
      rw [rdG_numB f (i + 1) _ (v / 128) t (by rw [Nat.div_lt_iff_lt_mul (by decide), ← Nat.pow_succ]; exact hv) (by omega) (.inl (by omega)) (by rw [e]; exact hs) hf, e]
theorem rdNum_numB {v : Nat} (hv : v ≤ 1099511627776) (t : List Nat) : rdNum (numB v ++ t) = some (v, t) := by
  have := rdG_numB 6 0 0 v t (by omega) (by omega) (.inr rfl) (by omega) (by decide)
  rw [Nat.zero_add, Nat.pow_zero, Nat.mul_one] at this
  exact this
theorem unS_sgnN {v : Int} (h : half v = true) : unS (sgnN v) = v ∧ sgnN v ≤ 1099511627776 := by
  have hh := half_le h
  unfold unS sgnN
  split <;> split <;> omega
theorem rdSgn_sgnN {v : Int} (h : half v = true) (t : List Nat) : rdSgn (numB (sgnN v) ++ t) = some (v, t) := by
  obtain ⟨h1, h2⟩ := unS_sgnN h
  unfold rdSgn
  rw [rdNum_numB h2]
  simp only [h1]
theorem rdFlag_flgB (b : Bool) (t : List Nat) : rdFlag (flgB b ++ t) = some (b, t) := by
  cases b <;> rfl
theorem rdCnt_numB {n k : Nat} (hn : n ≤ 1099511627776) (t : List Nat) (hk : n ≤ t.length / k) : rdCnt k (numB n ++ t) = some (n, t) := by
  unfold rdCnt
  rw [rdNum_numB hn]
  simp only
  rw [if_pos hk]
theorem strL_byL (s : ByteArray) : strL (byL s.data.toList) = s := by
  unfold strL byL
  apply ByteArray.ext
  apply Array.toList_inj.1
  rw [strOfNums_data, List.map_map, List.map_map]
  conv => rhs; rw [← List.map_id s.data.toList]
  refine List.map_congr_left (fun x _ => ?_)
  simp
theorem rdTxt_txtB {s : ByteArray} (hs : s.size ≤ 1099511627776) (t : List Nat) : rdTxt (txtB s ++ t) = some (s, t) := by
  have hl : (byL s.data.toList).length = s.size := by unfold byL; rw [List.length_map, Array.length_toList]; rfl
  unfold rdTxt txtB
  rw [List.append_assoc, rdCnt_numB hs _ (by rw [Nat.div_one, List.length_append, hl]; omega)]
  simp only
  rw [List.take_left' hl, List.drop_left' hl, strL_byL]
theorem rdRow_flat {α : Type} {f : List Nat → Option (α × List Nat)} {enc : α → List Nat} : ∀ (xs : List α) (t : List Nat), (∀ x, x ∈ xs → ∀ t, f (enc x ++ t) = some (x, t)) → rdRow f xs.length (xs.flatMap enc ++ t) = some (xs, t)
  | [], t, _ => rfl
  | x :: xs, t, h => by
    rw [List.flatMap_cons, List.append_assoc, List.length_cons]
    simp only [rdRow]
    rw [h x (List.mem_cons_self ..)]
    simp only
    rw [rdRow_flat xs t (fun y hy => h y (List.mem_cons_of_mem _ hy))]
theorem rdIns_insB {x : Int × Int × Int} (h : goodI x = true) (t : List Nat) : rdIns (insB x ++ t) = some (x, t) := by
  unfold goodI at h
  rw [Bool.and_eq_true, Bool.and_eq_true] at h
  have h1 := num_le h.1
  unfold rdIns insB
  rw [List.append_assoc, List.append_assoc, rdNum_numB (by omega)]
  simp only
  rw [rdSgn_sgnN h.2.1]
  simp only
  rw [rdSgn_sgnN h.2.2]
  simp only [Option.some.injEq, Prod.mk.injEq, and_true]
  have : ((x.1.toNat : Nat) : Int) = x.1 := by omega
  rw [this]
theorem rdMag_enc {b : Bool} {L : List Nat} (hl : L.length ≤ 1099511627776) (hd : ∀ x, x ∈ L → x < 4294967296) (t : List Nat) : rdMag (flgB b ++ numB L.length ++ L.flatMap numB ++ t) = some ((b, L), t) := by
  have hlen : ∀ L : List Nat, L.length ≤ (L.flatMap numB).length := fun L => by
    induction L with
    | nil => exact Nat.le_refl _
    | cons x L ih =>
      have := numB_pos x
      simp only [List.flatMap_cons, List.length_append, List.length_cons]
      omega
  unfold rdMag
  rw [List.append_assoc, List.append_assoc, rdFlag_flgB]
  simp only
  rw [rdCnt_numB hl _ (by rw [Nat.div_one, List.length_append]; have := hlen L; omega)]
  simp only
  rw [rdRow_flat L t (fun x hx t => ?_)]
  have := hd x hx
  unfold rdLimb
  rw [rdNum_numB (by omega)]
  simp only
  rw [if_pos (by omega)]

theorem rdRowP_flat {α : Type} {f : List Nat → Nat → Option (α × List Nat × Nat)} {enc : α → List Nat} {c : α → Nat} : ∀ (xs : List α) (t : List Nat) (p : Nat), (∀ x, x ∈ xs → ∀ t p, c x ≤ p → f (enc x ++ t) p = some (x, t, p - c x)) → (xs.map c).sum ≤ p → rdRowP f xs.length (xs.flatMap enc ++ t) p = some (xs, t, p - (xs.map c).sum)
  | [], t, p, _, _ => by simp [rdRowP]
  | x :: xs, t, p, h, hp => by
    rw [List.map_cons, List.sum_cons] at hp ⊢
    rw [List.flatMap_cons, List.append_assoc, List.length_cons]
    simp only [rdRowP]
    rw [h x (List.mem_cons_self ..) _ p (by omega)]
    simp only
    rw [rdRowP_flat xs t (p - c x) (fun y hy => h y (List.mem_cons_of_mem _ hy)) (by omega)]
    simp only [Option.some.injEq, Prod.mk.injEq, true_and]
    omega
/-- Sizes that are as they are in memory. -/
def szD : (h : Nat) → Tr h → Prop
  | 0, _ => False
  | h + 1, (_, _, _, L, t, I, R) => (∀ x, x ∈ L → x < 4294967296) ∧ L.length ≤ 1099511627776 ∧ t.size ≤ 1099511627776 ∧ I.length ≤ 1099511627776 ∧ (∀ x, x ∈ I → szD h x) ∧ ∀ x, x ∈ R → szD h x
theorem pts_one {h : Nat} (d : Tr h) (hd : szD h d) : 1 ≤ ptsD h d := by
  cases h with
  | zero => exact hd.elim
  | succ h => unfold ptsD; omega
theorem sum_pts {h : Nat} : ∀ I : List (Tr h), (∀ x, x ∈ I → szD h x) → (I.map fun x => ptsD h x - 1).sum + I.length = (I.map (ptsD h)).sum
  | [], _ => rfl
  | x :: I, hs => by
    have := sum_pts I (fun y hy => hs y (List.mem_cons_of_mem _ hy))
    have := pts_one x (hs x (List.mem_cons_self ..))
    simp only [List.map_cons, List.sum_cons, List.length_cons]
    omega
theorem flat_len1 {h : Nat} : ∀ I : List (Tr h), (∀ x, x ∈ I → szD h x) → I.length ≤ (I.flatMap (datB h)).length
  | [], _ => Nat.le_refl _
  | x :: I, hs => by
    have a := flat_len1 I (fun y hy => hs y (List.mem_cons_of_mem _ hy))
    have b : 0 < (datB h x).length := by
      cases h with
      | zero => exact (hs x (List.mem_cons_self ..)).elim
      | succ h =>
        obtain ⟨k, n, b, L, t, I', R'⟩ := x
        have := numB_pos k.toNat
        simp only [datB, List.length_append]
        omega
    simp only [List.flatMap_cons, List.length_append, List.length_cons]
    omega
theorem rdDta_enc {h dp : Nat} {I : List (Tr h)} {t : List Nat} {p : Nat} (hs : ∀ x, x ∈ I → szD h x) (hl : I.length ≤ 1099511627776) (hx : ∀ x, x ∈ I → ∀ t p, ptsD h x ≤ p + 1 → rdDat h dp (datB h x ++ t) p = some (x, t, p + 1 - ptsD h x)) (hp : (I.map (ptsD h)).sum ≤ p) :
    rdDta (rdDat h dp) (numB I.length ++ I.flatMap (datB h) ++ t) p = some (I, t, p - (I.map (ptsD h)).sum) := by
  have e := sum_pts I hs
  have hfl := flat_len1 I hs
  unfold rdDta
  rw [List.append_assoc, rdCnt_numB hl _ (by rw [Nat.div_one, List.length_append]; omega)]
  simp only
  rw [if_pos (by omega), rdRowP_flat (c := fun x => ptsD h x - 1) I t (p - I.length) (fun x hi t q hq => ?_) (by omega)]
  · simp only [Option.some.injEq, Prod.mk.injEq, true_and]
    omega
  · have h1 := pts_one x (hs x hi)
    rw [hx x hi t q (by omega)]
    simp only [Option.some.injEq, Prod.mk.injEq, true_and]
    omega
theorem rdRst_enc {h dp : Nat} {R : List (Tr h)} {t : List Nat} {p : Nat} (hs : ∀ x, x ∈ R → szD h x) (hl : R.length ≤ 1) (hx : ∀ x, x ∈ R → ∀ t p, ptsD h x ≤ p + 1 → rdDat h dp (datB h x ++ t) p = some (x, t, p + 1 - ptsD h x)) (hp : (R.map (ptsD h)).sum ≤ p) :
    rdRst (rdDat h dp) (flgB (!R.isEmpty) ++ R.flatMap (datB h) ++ t) p = some (R, t, p - (R.map (ptsD h)).sum) := by
  unfold rdRst
  rw [List.append_assoc, rdFlag_flgB]
  simp only
  match R, hs, hl, hx, hp with
  | [], _, _, _, _ => simp
  | [x], hs, _, hx, hp =>
    have h1 := pts_one x (hs x (List.mem_cons_self ..))
    simp only [List.map_cons, List.map_nil, List.sum_cons, List.sum_nil, Nat.add_zero] at hp ⊢
    simp only [List.isEmpty_cons, Bool.not_false, if_true, List.flatMap_cons, List.flatMap_nil, List.append_nil]
    rw [if_pos (by omega), hx x (List.mem_cons_self ..) t (p - 1) (by omega)]
    simp only [Option.some.injEq, Prod.mk.injEq, true_and]
    omega
  | _ :: _ :: _, _, hl, _, _ => simp at hl

theorem size0 {t : ByteArray} (h : t.size = 0) : t = ⟨#[]⟩ := by
  apply ByteArray.ext
  apply Array.eq_empty_of_size_eq_zero
  exact h
theorem restF_len {h : Nat} {k : Int} {n : Nat} {R : List (Tr h)} (hf : restF k n R = true) : R.length ≤ 1 ∧ (k ≠ 6 → R = []) := by
  match R, hf with
  | [], _ => exact ⟨by simp, fun _ => rfl⟩
  | [_], hf =>
    refine ⟨by simp, fun hk => ?_⟩
    simp [restF, hk] at hf
theorem rdDat_enc : ∀ (h dp : Nat) (d : Tr h) (t : List Nat) (p : Nat), goodD h dp d = true → szD h d → ptsD h d ≤ p + 1 → rdDat h dp (datB h d ++ t) p = some (d, t, p + 1 - ptsD h d)
  | 0, _, _, _, _, hg, _, _ => by cases hg
  | h + 1, 0, _, _, _, hg, _, _ => by cases hg
  | h + 1, dp + 1, (k, n, b, L, tt, I, R), t, p, hg, hz, hp => by
    have hg' : (fit1 (h := h) (k, n, b, L, tt, I, R) && (I.all (goodD h dp) && R.all (goodD h dp))) = true := hg
    rw [Bool.and_eq_true, Bool.and_eq_true] at hg'
    obtain ⟨hf, hgI, hgR⟩ := hg'
    have hf0 := hf
    simp only [fit1, Bool.and_eq_true, Bool.or_eq_true, decide_eq_true_eq] at hf
    obtain ⟨⟨hk1, hk9⟩, ⟨hhalf, hN⟩, ⟨⟨⟨hcb, hL⟩, hT⟩, hI⟩, hR⟩ := hf
    obtain ⟨hR1, hR6⟩ := restF_len hR
    obtain ⟨z1, z2, z3, z4, z5, z6⟩ := hz
    have hpt : ptsD (h + 1) (k, n, b, L, tt, I, R) = 1 + (I.map (ptsD h)).sum + (R.map (ptsD h)).sum := rfl
    rw [hpt] at hp ⊢
    have IHI : ∀ x, x ∈ I → ∀ t p, ptsD h x ≤ p + 1 → rdDat h dp (datB h x ++ t) p = some (x, t, p + 1 - ptsD h x) := fun x hx t p hq => rdDat_enc h dp x t p (List.all_eq_true.1 hgI x hx) (z5 x hx) hq
    have IHR : ∀ x, x ∈ R → ∀ t p, ptsD h x ≤ p + 1 → rdDat h dp (datB h x ++ t) p = some (x, t, p + 1 - ptsD h x) := fun x hx t p hq => rdDat_enc h dp x t p (List.all_eq_true.1 hgR x hx) (z6 x hx) hq
    have key : ∀ rest : List Nat, datB (h + 1) (k, n, b, L, tt, I, R) = numB k.toNat ++ rest → rdFld (rdDat h dp) k.toNat (rest ++ t) p = some ((k, n, b, L, tt, I, R), t, p + 1 - (1 + (I.map (ptsD h)).sum + (R.map (ptsD h)).sum)) → rdDat (h + 1) (dp + 1) (datB (h + 1) (k, n, b, L, tt, I, R) ++ t) p = some ((k, n, b, L, tt, I, R), t, p + 1 - (1 + (I.map (ptsD h)).sum + (R.map (ptsD h)).sum)) := fun rest he hfl => by
      rw [he, List.append_assoc]
      simp only [rdDat]
      rw [rdNum_numB (by omega)]
      simp only
      rw [hfl]
      simp only
      rw [if_pos hf0]
      rfl
    have h9 : k = 1 ∨ k = 2 ∨ k = 3 ∨ k = 4 ∨ k = 5 ∨ k = 6 ∨ k = 7 ∨ k = 8 ∨ k = 9 := by omega
    have pl : k ≠ 6 → k ≠ 7 → I = [] ∧ R = [] := fun a c => ⟨List.length_eq_zero_iff.1 (by omega), hR6 a⟩
    rcases h9 with rfl | rfl | rfl | rfl | rfl | rfl | rfl | rfl | rfl
    · obtain ⟨rfl, rfl⟩ := pl (by decide) (by decide)
      have e0 : n = 0 := by omega
      have e1 := size0 (t := tt) (by omega)
      subst e0 e1
      refine key (flgB b ++ numB L.length ++ L.flatMap numB) (by simp [datB]) ?_
      simp only [rdFld, Int.toNat_one, if_true, rdMag_enc z2 z1]
      simp
      rfl
    · obtain ⟨rfl, rfl⟩ := pl (by decide) (by decide)
      have eL : L = [] := List.length_eq_zero_iff.1 (by omega)
      subst eL
      have eb : b = false := by simpa [canB] using hcb
      subst eb
      have e1 := size0 (t := tt) (by omega)
      subst e1
      refine key (numB (sgnN n)) (by simp [datB]) ?_
      simp [rdFld, rdSgn_sgnN hhalf]
      rfl
    · obtain ⟨rfl, rfl⟩ := pl (by decide) (by decide)
      have eL : L = [] := List.length_eq_zero_iff.1 (by omega)
      subst eL
      have eb : b = false := by simpa [canB] using hcb
      subst eb
      have e1 := size0 (t := tt) (by omega)
      subst e1
      refine key (numB (sgnN n)) (by simp [datB]) ?_
      simp [rdFld, rdSgn_sgnN hhalf]
      rfl
    · obtain ⟨rfl, rfl⟩ := pl (by decide) (by decide)
      have eL : L = [] := List.length_eq_zero_iff.1 (by omega)
      subst eL
      have eb : b = false := by simpa [canB] using hcb
      subst eb
      have e0 : n = 0 := by omega
      subst e0
      refine key (txtB tt) (by simp [datB]) ?_
      simp [rdFld, rdTxt_txtB z3]
      rfl
    · obtain ⟨rfl, rfl⟩ := pl (by decide) (by decide)
      have eL : L = [] := List.length_eq_zero_iff.1 (by omega)
      subst eL
      have eb : b = false := by simpa [canB] using hcb
      subst eb
      refine key (txtB tt ++ numB (sgnN n)) (by simp [datB]) ?_
      simp [rdFld, rdTxt_txtB z3, rdSgn_sgnN hhalf]
      rfl
    · have eL : L = [] := List.length_eq_zero_iff.1 (by omega)
      subst eL
      have eb : b = false := by simpa [canB] using hcb
      subst eb
      have e1 := size0 (t := tt) (by omega)
      subst e1
      have e0 : n = 0 := by omega
      subst e0
      refine key (numB I.length ++ I.flatMap (datB h) ++ (flgB (!R.isEmpty) ++ R.flatMap (datB h))) (by simp [datB]) ?_
      have a1 := rdDta_enc (t := flgB (!R.isEmpty) ++ R.flatMap (datB h) ++ t) z5 z4 IHI (p := p) (by omega)
      have a2 := rdRst_enc (t := t) z6 hR1 IHR (p := p - (I.map (ptsD h)).sum) (by omega)
      simp only [rdFld]
      rw [List.append_assoc, a1]
      simp only
      rw [a2, show p + 1 - (1 + (I.map (ptsD h)).sum + (R.map (ptsD h)).sum) = p - (I.map (ptsD h)).sum - (R.map (ptsD h)).sum by omega]
      simp
      rfl
    · have eR := hR6 (by decide)
      subst eR
      have eL : L = [] := List.length_eq_zero_iff.1 (by omega)
      subst eL
      have eb : b = false := by simpa [canB] using hcb
      subst eb
      have e1 := size0 (t := tt) (by omega)
      subst e1
      have e0 : n = 0 := by omega
      subst e0
      refine key (numB I.length ++ I.flatMap (datB h)) (by simp [datB]) ?_
      have a1 := rdDta_enc (t := t) z5 z4 IHI (p := p) (by simp at hp; omega)
      simp only [rdFld]
      rw [a1, show p + 1 - (1 + (I.map (ptsD h)).sum + (([] : List (Tr h)).map (ptsD h)).sum) = p - (I.map (ptsD h)).sum by simp; omega]
      simp
      rfl
    · obtain ⟨rfl, rfl⟩ := pl (by decide) (by decide)
      have eL : L = [] := List.length_eq_zero_iff.1 (by omega)
      subst eL
      have eb : b = false := by simpa [canB] using hcb
      subst eb
      have e1 := size0 (t := tt) (by omega)
      subst e1
      have e0 : n = 0 := by omega
      subst e0
      refine key [] (by simp [datB]) ?_
      simp [rdFld]
      rfl
    · obtain ⟨rfl, rfl⟩ := pl (by decide) (by decide)
      have eL : L = [] := List.length_eq_zero_iff.1 (by omega)
      subst eL
      have eb : b = false := by simpa [canB] using hcb
      subst eb
      have e1 := size0 (t := tt) (by omega)
      subst e1
      refine key (numB (sgnN n)) (by simp [datB]) ?_
      simp [rdFld, rdSgn_sgnN hhalf]
      rfl

/-- Sizes that are as they are in memory. -/
def szP {h : Nat} (p : PC h) : Prop := p.nm.size ≤ 1099511627776 ∧ p.code.length ≤ 1099511627776 ∧ p.ks.length ≤ 1099511627776 ∧ (∀ x, x ∈ p.ks → szD h x) ∧ p.ns.length ≤ 1099511627776 ∧ ∀ s, s ∈ p.ns → s.size ≤ 1099511627776
theorem ins_len : ∀ l : List (Int × Int × Int), 3 * l.length ≤ (l.flatMap insB).length
  | [] => Nat.le_refl _
  | x :: l => by
    have := ins_len l
    have a := numB_pos x.1.toNat
    have b := numB_pos (sgnN x.2.1)
    have c := numB_pos (sgnN x.2.2)
    simp only [List.flatMap_cons, insB, List.length_append, List.length_cons]
    omega
theorem txt_len1 : ∀ l : List ByteArray, l.length ≤ (l.flatMap txtB).length
  | [] => Nat.le_refl _
  | x :: l => by
    have := txt_len1 l
    have a := numB_pos x.size
    simp only [List.flatMap_cons, txtB, List.length_append, List.length_cons]
    omega
theorem rdPro_enc {h : Nat} (x : PC h) (t : List Nat) (p : Nat) (hg : goodP x = true) (hz : szP x) (hp : (x.ks.map (ptsD h)).sum ≤ p) : rdPro h (proB x ++ t) p = some (x, t, p - (x.ks.map (ptsD h)).sum) := by
  obtain ⟨nm, ar, fr, rs, cd, ks, ns⟩ := x
  obtain ⟨z1, z2, z3, z4, z5, z6⟩ := hz
  simp only [goodP, Bool.and_eq_true] at hg
  obtain ⟨g1, g2, g3, g4⟩ := hg
  have n1 := num_le g1
  have n2 := num_le g2
  simp only at z1 z2 z3 z4 z5 z6 n1 n2 g3 g4 hp ⊢
  have hc := ins_len cd
  have hs := txt_len1 ns
  have eD := rdDta_enc (dp := 100) (t := numB ns.length ++ (ns.flatMap txtB ++ t)) z4 z3 (fun y hy t p hq => rdDat_enc h 100 y t p (List.all_eq_true.1 g4 y hy) (z4 y hy) hq) (p := p) hp
  unfold rdPro proB
  simp only [List.append_assoc]
  rw [rdTxt_txtB z1]
  simp only
  rw [rdNum_numB (by omega)]
  simp only
  rw [rdFlag_flgB]
  simp only
  rw [rdNum_numB (by omega)]
  simp only
  rw [rdCnt_numB z2 _ (by simp only [List.length_append]; omega)]
  simp only
  rw [rdRow_flat cd _ (fun y hy t => rdIns_insB (List.all_eq_true.1 g3 y hy) t)]
  simp only
  rw [List.append_assoc] at eD
  rw [eD]
  simp only
  rw [rdCnt_numB z5 _ (by rw [Nat.div_one, List.length_append]; omega)]
  simp only
  rw [rdRow_flat ns _ (fun y hy t => rdTxt_txtB (z6 y hy) t)]
  simp only [Option.some.injEq, Prod.mk.injEq, and_true]
  have e1 : ((ar.toNat : Nat) : Int) = ar := by omega
  have e2 : ((fr.toNat : Nat) : Int) = fr := by omega
  rw [e1, e2]
theorem pro_len7 {h : Nat} : ∀ ps : List (PC h), 7 * ps.length ≤ (ps.flatMap proB).length
  | [] => Nat.le_refl _
  | x :: ps => by
    have := pro_len7 ps
    have a1 := numB_pos x.nm.size
    have a2 := numB_pos x.args.toNat
    have a3 := numB_pos x.free.toNat
    have a4 := numB_pos x.code.length
    have a5 := numB_pos x.ks.length
    have a6 := numB_pos x.ns.length
    have a7 : (flgB x.rest).length = 1 := rfl
    simp only [List.flatMap_cons, proB, txtB, List.length_append, List.length_cons]
    omega
/-- What is written is read as the same program. -/
theorem rdPrg_enc {h : Nat} (ps : List (PC h)) (hm : mayW ps = true) (hz : ∀ p, p ∈ ps → szP p) (hl : ps.length ≤ 1099511627776) : rdPrg h (pgB ps) 20000 = some ps := by
  unfold mayW at hm
  rw [Bool.and_eq_true, decide_eq_true_eq] at hm
  have hk : kA ps ps.length = (ps.map fun p => (p.ks.map (ptsD h)).sum).sum := by
    unfold kA
    rw [List.take_length]
    rfl
  rw [hk] at hm
  have hlen := pro_len7 ps
  have e4 : (pgB ps).take 4 = [84, 65, 78, 68] := by
    unfold pgB
    rw [List.append_assoc]
    rfl
  have ed : (pgB ps).drop 4 = numB ps.length ++ (ps.flatMap proB ++ []) := by
    unfold pgB
    rw [List.append_assoc, List.append_nil]
    rfl
  unfold rdPrg
  rw [if_pos e4, ed, rdCnt_numB hl _ (by rw [List.append_nil]; omega)]
  simp only
  rw [rdRowP_flat (c := fun p => (p.ks.map (ptsD h)).sum) ps [] 20000 (fun x hx t p hp => rdPro_enc x t p (List.all_eq_true.1 hm.1 x hx) (hz x hx) hp) hm.2]
  simp

def Ext {α : Type} (f : List Nat → Option (α × List Nat)) : Prop := ∀ l x m t, f l = some (x, m) → f (l ++ t) = some (x, m ++ t)
def ExtP {α : Type} (f : List Nat → Nat → Option (α × List Nat × Nat)) : Prop := ∀ l p x m q t, f l p = some (x, m, q) → f (l ++ t) p = some (x, m ++ t, q)
theorem rdG_ext : ∀ (f i acc : Nat), Ext (rdG f i acc)
  | 0, _, _, _, _, _, _, h => by cases h
  | _ + 1, _, _, [], _, _, _, h => by cases h
  | f + 1, i, acc, b :: l, x, m, t, h => by
    rw [List.cons_append, rdG_cons]
    rw [rdG_cons] at h
    split at h
    · rename_i h1
      rw [if_pos h1]
      split at h
      · rename_i h2
        rw [if_pos h2]
        cases h
        rfl
      · cases h
    · rename_i h1
      rw [if_neg h1]
      exact rdG_ext f _ _ l x m t h
theorem rdNum_ext : Ext rdNum := rdG_ext 6 0 0
theorem rdSgn_ext : Ext rdSgn := fun l x m t h => by
  unfold rdSgn at h ⊢
  split at h
  · cases h
  · rename_i h1
    rw [rdNum_ext _ _ _ t h1]
    cases h
    rfl
theorem rdFlag_ext : Ext rdFlag
  | [], _, _, _, h => by cases h
  | b :: l, x, m, t, h => by
    have h' : (if b ≤ 1 then some (decide (b = 1), l) else none) = some (x, m) := h
    show (if b ≤ 1 then some (decide (b = 1), l ++ t) else none) = _
    split at h'
    · rename_i h1
      rw [if_pos h1]
      cases h'
      rfl
    · cases h'
theorem rdCnt_ext (k : Nat) : Ext (rdCnt k) := fun l x m t h => by
  unfold rdCnt at h ⊢
  split at h
  · cases h
  · rename_i h1
    rw [rdNum_ext _ _ _ t h1]
    split at h
    · rename_i h2
      cases h
      simp only
      rw [if_pos (Nat.le_trans h2 (Nat.div_le_div_right (by rw [List.length_append]; omega)))]
    · cases h
theorem rdLimb_ext : Ext rdLimb := fun l x m t h => by
  unfold rdLimb at h ⊢
  split at h
  · cases h
  · rename_i h1
    rw [rdNum_ext _ _ _ t h1]
    split at h
    · rename_i h2
      cases h
      simp only
      rw [if_pos h2]
    · cases h
theorem rdTxt_ext : Ext rdTxt := fun l x m t h => by
  unfold rdTxt at h ⊢
  split at h
  · cases h
  · rename_i h1
    have hn := (rdCnt_len h1).2.1
    rw [Nat.div_one] at hn
    rw [rdCnt_ext 1 _ _ _ t h1]
    cases h
    simp only
    rw [List.take_append_of_le_length hn, List.drop_append_of_le_length hn]
theorem rdRow_ext {α : Type} {f : List Nat → Option (α × List Nat)} (hf : Ext f) : ∀ n, Ext (rdRow f n)
  | 0, l, x, m, t, h => by
    rw [rdRow_zero] at h ⊢
    cases h
    rfl
  | n + 1, l, x, m, t, h => by
    simp only [rdRow] at h ⊢
    split at h
    · cases h
    · rename_i h1
      rw [hf _ _ _ t h1]
      simp only
      split at h
      · cases h
      · rename_i h2
        rw [rdRow_ext hf n _ _ _ t h2]
        cases h
        rfl
theorem rdIns_ext : Ext rdIns := fun l x m t h => by
  unfold rdIns at h ⊢
  split at h
  · cases h
  rename_i h1
  rw [rdNum_ext _ _ _ t h1]
  simp only
  split at h
  · cases h
  rename_i h2
  rw [rdSgn_ext _ _ _ t h2]
  simp only
  split at h
  · cases h
  rename_i h3
  rw [rdSgn_ext _ _ _ t h3]
  cases h
  rfl
theorem rdMag_ext : Ext rdMag := fun l x m t h => by
  unfold rdMag at h ⊢
  split at h
  · cases h
  rename_i h1
  rw [rdFlag_ext _ _ _ t h1]
  simp only
  split at h
  · cases h
  rename_i h2
  rw [rdCnt_ext 1 _ _ _ t h2]
  simp only
  split at h
  · cases h
  rename_i h3
  rw [rdRow_ext rdLimb_ext _ _ _ _ t h3]
  cases h
  rfl
theorem rdRowP_ext {α : Type} {f : List Nat → Nat → Option (α × List Nat × Nat)} (hf : ExtP f) : ∀ n, ExtP (rdRowP f n)
  | 0, l, p, x, m, q, t, h => by
    rw [rdRowP_zero] at h ⊢
    cases h
    rfl
  | n + 1, l, p, x, m, q, t, h => by
    simp only [rdRowP] at h ⊢
    split at h
    · cases h
    · rename_i h1
      rw [hf _ _ _ _ _ t h1]
      simp only
      split at h
      · cases h
      · rename_i h2
        rw [rdRowP_ext hf n _ _ _ _ _ t h2]
        cases h
        rfl
theorem rdDta_ext {α : Type} {f : List Nat → Nat → Option (α × List Nat × Nat)} (hf : ExtP f) : ExtP (rdDta f) := fun l p x m q t h => by
  unfold rdDta at h ⊢
  split at h
  · cases h
  rename_i h1
  rw [rdCnt_ext 1 _ _ _ t h1]
  simp only
  split at h
  · rename_i h2
    rw [if_pos h2]
    exact rdRowP_ext hf _ _ _ _ _ _ t h
  · cases h
theorem rdRst_ext {α : Type} {f : List Nat → Nat → Option (α × List Nat × Nat)} (hf : ExtP f) : ExtP (rdRst f) := fun l p x m q t h => by
  unfold rdRst at h ⊢
  split at h
  · cases h
  rename_i h1
  rw [rdFlag_ext _ _ _ t h1]
  simp only
  split at h
  · rename_i h2
    rw [if_pos h2]
    split at h
    · rename_i h3
      rw [if_pos h3]
      split at h
      · cases h
      · rename_i h4
        rw [hf _ _ _ _ _ t h4]
        cases h
        rfl
    · cases h
  · rename_i h2
    rw [if_neg h2]
    cases h
    rfl

theorem rdFld_ext {h : Nat} {f : List Nat → Nat → Option (Tr h × List Nat × Nat)} (hf : ExtP f) (k : Nat) : ExtP (rdFld f k) := fun l p x m q t hx => by
  unfold rdFld at hx ⊢
  split at hx
  · rename_i hk
    rw [if_pos hk]
    split at hx
    · cases hx
    · rename_i h1
      rw [rdMag_ext _ _ _ t h1]
      cases hx
      rfl
  rename_i hk1
  rw [if_neg hk1]
  split at hx
  · rename_i hk
    rw [if_pos hk]
    split at hx
    · cases hx
    · rename_i h1
      rw [rdSgn_ext _ _ _ t h1]
      cases hx
      rfl
  rename_i hk2
  rw [if_neg hk2]
  split at hx
  · rename_i hk
    rw [if_pos hk]
    split at hx
    · cases hx
    · rename_i h1
      rw [rdTxt_ext _ _ _ t h1]
      cases hx
      rfl
  rename_i hk4
  rw [if_neg hk4]
  split at hx
  · rename_i hk
    rw [if_pos hk]
    split at hx
    · cases hx
    · rename_i h1
      rw [rdTxt_ext _ _ _ t h1]
      simp only
      split at hx
      · cases hx
      · rename_i h2
        rw [rdSgn_ext _ _ _ t h2]
        cases hx
        rfl
  rename_i hk5
  rw [if_neg hk5]
  split at hx
  · rename_i hk
    rw [if_pos hk]
    split at hx
    · cases hx
    · rename_i h1
      rw [rdDta_ext hf _ _ _ _ _ t h1]
      simp only
      split at hx
      · cases hx
      · rename_i h2
        rw [rdRst_ext hf _ _ _ _ _ t h2]
        cases hx
        rfl
  rename_i hk6
  rw [if_neg hk6]
  split at hx
  · rename_i hk
    rw [if_pos hk]
    split at hx
    · cases hx
    · rename_i h1
      rw [rdDta_ext hf _ _ _ _ _ t h1]
      cases hx
      rfl
  rename_i hk7
  rw [if_neg hk7]
  cases hx
  rfl
theorem rdDat_ext : ∀ (h dp : Nat), ExtP (rdDat h dp)
  | 0, _, _, _, _, _, _, _, hx => by cases hx
  | _ + 1, 0, _, _, _, _, _, _, hx => by cases hx
  | h + 1, dp + 1, l, p, x, m, q, t, hx => by
    simp only [rdDat] at hx ⊢
    split at hx
    · cases hx
    rename_i h1
    rw [rdNum_ext _ _ _ t h1]
    simp only
    split at hx
    · cases hx
    rename_i h2
    rw [rdFld_ext (rdDat_ext h dp) _ _ _ _ _ _ t h2]
    simp only
    split at hx
    · rename_i h3
      rw [if_pos h3]
      cases hx
      rfl
    · cases hx
theorem rdPro_ext (h : Nat) : ExtP (rdPro h) := fun l p x m q t hx => by
  unfold rdPro at hx ⊢
  split at hx
  · cases hx
  rename_i h1
  rw [rdTxt_ext _ _ _ t h1]
  simp only
  split at hx
  · cases hx
  rename_i h2
  rw [rdNum_ext _ _ _ t h2]
  simp only
  split at hx
  · cases hx
  rename_i h3
  rw [rdFlag_ext _ _ _ t h3]
  simp only
  split at hx
  · cases hx
  rename_i h4
  rw [rdNum_ext _ _ _ t h4]
  simp only
  split at hx
  · cases hx
  rename_i h5
  rw [rdCnt_ext 3 _ _ _ t h5]
  simp only
  split at hx
  · cases hx
  rename_i h6
  rw [rdRow_ext rdIns_ext _ _ _ _ t h6]
  simp only
  split at hx
  · cases hx
  rename_i h7
  rw [rdDta_ext (rdDat_ext h 100) _ _ _ _ _ t h7]
  simp only
  split at hx
  · cases hx
  rename_i h8
  rw [rdCnt_ext 1 _ _ _ t h8]
  simp only
  split at hx
  · cases hx
  rename_i h9
  rw [rdRow_ext rdTxt_ext _ _ _ _ t h9]
  cases hx
  rfl
/-- Bytes of a program with more behind them are no program's. -/
theorem rdPrg_more {h p : Nat} {l t : List Nat} {ps : List (PC h)} (hx : rdPrg h l p = some ps) (ht : t ≠ []) : rdPrg h (l ++ t) p = none := by
  unfold rdPrg at hx ⊢
  split at hx
  · rename_i h4
    have hl : 4 ≤ l.length := by
      have := congrArg List.length h4
      rw [List.length_take] at this
      simp at this
      omega
    rw [List.take_append_of_le_length hl, List.drop_append_of_le_length hl, if_pos h4]
    split at hx
    · cases hx
    rename_i h1
    rw [rdCnt_ext 7 _ _ _ t h1]
    simp only
    split at hx
    · cases hx
    rename_i h2
    rw [rdRowP_ext (rdPro_ext h) _ _ _ _ _ _ t h2]
    simp only
    rw [if_neg (fun e => ht (List.append_eq_nil_iff.1 e).2)]
  · cases hx
/-- Bytes of a program cut off are no program's. -/
theorem rdPrg_cut {h p : Nat} {l t : List Nat} {ps : List (PC h)} (hx : rdPrg h (l ++ t) p = some ps) (ht : t ≠ []) : rdPrg h l p = none := by
  cases hl : rdPrg h l p with
  | none => rfl
  | some qs =>
    have := rdPrg_more hl ht
    rw [hx] at this
    cases this

theorem ByAt.bl {w : World} {B : Nat} {v : Value} {l : List Nat} (h : ByAt w B v l) : BL w v l := by
  have h' : w.ownsRow B 5 1 v l.length (cL l) := h
  rcases h'.2 with ⟨rfl, e0⟩ | ⟨g, cap, cur, rfl, h1, h2, h3, h4, h5, h6⟩
  · exact ⟨none, 0, by rw [e0], by omega, by decide, .inl ⟨rfl, rfl⟩⟩
  · refine ⟨_, cap, rfl, h3, by unfold maxLen at h4; omega, .inr ⟨g, 0, rfl, fun j hj => ?_⟩⟩
    have := h'.cells (g := g) rfl j (.int .u8 (l[j] : Int)) (by simp [cL, hj])
    have e : (⟨g, 0, none⟩ : Addr).add j = ⟨g, 0 + j, none⟩ := by simp only [Addr.add]; split <;> simp_all
    rw [← e]
    exact this
theorem sgn_by8' {v : Int} (h : half v = true) : By8 (numB (sgnN v)) := sgn_by8 (half_le h)
theorem dat_by8 : ∀ (h dp : Nat) (d : Tr h), goodD h dp d = true → szD h d → By8 (datB h d)
  | 0, _, _, hg, _ => by cases hg
  | _ + 1, 0, _, hg, _ => by cases hg
  | h + 1, dp + 1, (k, n, b, L, tt, I, R), hg, hz => by
    have hg' : (fit1 (h := h) (k, n, b, L, tt, I, R) && (I.all (goodD h dp) && R.all (goodD h dp))) = true := hg
    rw [Bool.and_eq_true, Bool.and_eq_true] at hg'
    obtain ⟨hf, hgI, hgR⟩ := hg'
    simp only [fit1, Bool.and_eq_true, Bool.or_eq_true, decide_eq_true_eq] at hf
    obtain ⟨⟨hk1, hk9⟩, ⟨hhalf, -⟩, -⟩ := hf
    obtain ⟨z1, z2, z3, z4, z5, z6⟩ := hz
    have aI : By8 (I.flatMap (datB h)) := By8.flat (fun x hx => dat_by8 h dp x (List.all_eq_true.1 hgI x hx) (z5 x hx))
    have aR : By8 (R.flatMap (datB h)) := By8.flat (fun x hx => dat_by8 h dp x (List.all_eq_true.1 hgR x hx) (z6 x hx))
    have aL : By8 (L.flatMap numB) := By8.flat (fun x hx => num_by8 (by have := z1 x hx; omega))
    have nil : By8 [] := fun x hx => by cases hx
    simp only [datB]
    refine By8.app (num_by8 (by omega)) ?_
    split
    · exact ((flg_by8 b).app (num_by8 (by omega))).app aL
    split
    · exact sgn_by8' hhalf
    split
    · exact txt_by8 (by omega)
    split
    · exact (txt_by8 (by omega)).app (sgn_by8' hhalf)
    split
    · exact (((num_by8 (by omega)).app aI).app (flg_by8 _)).app aR
    split
    · exact (num_by8 (by omega)).app aI
    · exact nil
theorem pro_by8 {h : Nat} (p : PC h) (hg : goodP p = true) (hz : szP p) : By8 (proB p) := by
  obtain ⟨z1, z2, z3, z4, z5, z6⟩ := hz
  simp only [goodP, Bool.and_eq_true] at hg
  obtain ⟨g1, g2, g3, g4⟩ := hg
  have n1 := num_le g1
  have n2 := num_le g2
  have ac : By8 (p.code.flatMap insB) := By8.flat (fun x hx => by
    have hi := List.all_eq_true.1 g3 x hx
    unfold goodI at hi
    rw [Bool.and_eq_true, Bool.and_eq_true] at hi
    have := num_le hi.1
    exact ((num_by8 (by omega)).app (sgn_by8' hi.2.1)).app (sgn_by8' hi.2.2))
  have ak : By8 (p.ks.flatMap (datB h)) := By8.flat (fun x hx => dat_by8 h 100 x (List.all_eq_true.1 g4 x hx) (z4 x hx))
  have an : By8 (p.ns.flatMap txtB) := By8.flat (fun x hx => txt_by8 (by have := z6 x hx; omega))
  unfold proB
  exact (txt_by8 (by omega)).app ((num_by8 (by omega)).app ((flg_by8 _).app ((num_by8 (by omega)).app ((num_by8 (by omega)).app (ac.app ((num_by8 (by omega)).app (ak.app ((num_by8 (by omega)).app an))))))))
theorem pg_by8 {h : Nat} (ps : List (PC h)) (hm : mayW ps = true) (hz : ∀ p, p ∈ ps → szP p) (hl : ps.length ≤ 1099511627776) : By8 (pgB ps) := by
  unfold mayW at hm
  rw [Bool.and_eq_true] at hm
  have h0 : By8 [84, 65, 78, 68] := fun x hx => by
    simp at hx
    omega
  unfold pgB
  exact (h0.app (num_by8 (by omega))).app (By8.flat (fun p hp => pro_by8 p (List.all_eq_true.1 hm.1 p hp) (hz p hp)))

theorem bk_mem {h : Nat} {x : Tr h} {I : List (Tr h)} (hx : x ∈ I) : bk h x ≤ (I.map (bk h)).sum := mem_sum (bk h) hx
/-- Sizes of a datum that lies there. -/
theorem szD_of : ∀ (h : Nat) (d : Tr h) (w : World) (cs : List Value), DatC w h d cs → bk h d ≤ 1048576 → szD h d
  | 0, _, _, _, hd, _ => hd.elim
  | h + 1, (k, n, b, L, t, I, R), w, cs, hd, hb => by
    obtain ⟨um, ui, ur, -, -, -, hlim, hI, hR⟩ := hd
    have hb' : 2 + L.length + t.size + (I.map (bk h)).sum + (R.map (bk h)).sum ≤ 1048576 := hb
    have part : ∀ (J : List (Tr h)) (v : Value), RowD w (DatC w h) v J → (J.map (bk h)).sum ≤ 1048576 → ∀ x, x ∈ J → szD h x := fun J v hJ hs x hx => by
      obtain ⟨i, hi, rfl⟩ := List.getElem_of_mem hx
      obtain ⟨ao, cap, rfl⟩ := hJ.shape
      obtain ⟨-, g, off, -, cs', -, -, hdat⟩ := hJ.get hi
      exact szD_of h J[i] w cs' hdat (Nat.le_trans (bk_mem (List.getElem_mem hi)) hs)
    have hone : I.length ≤ (I.map (bk h)).sum := by
      have key : ∀ J : List (Tr h), (∀ x, x ∈ J → 1 ≤ bk h x) → J.length ≤ (J.map (bk h)).sum := fun J => by
        induction J with
        | nil => intro _; exact Nat.le_refl _
        | cons x J ih =>
          intro hj
          have a := ih (fun y hy => hj y (List.mem_cons_of_mem _ hy))
          have c := hj x (List.mem_cons_self ..)
          simp only [List.map_cons, List.sum_cons, List.length_cons]
          omega
      refine key I (fun x hx => ?_)
      have hsz := part I ui hI (by omega) x hx
      cases h with
      | zero => exact hsz.elim
      | succ h =>
        obtain ⟨k', n', b', L', t', I', R'⟩ := x
        show 1 ≤ 2 + L'.length + t'.size + _ + _
        omega
    refine ⟨fun x hx => ?_, by omega, by omega, by omega, part I ui hI (by omega), part R ur hR (by omega)⟩
    obtain ⟨i, hi, rfl⟩ := List.getElem_of_mem hx
    have := hlim i hi
    simpa [List.getD_eq_getElem?_getD, hi] using this
/-- Sizes of a proto that lies there. -/
theorem szP_of {N : Nat} {w : World} {ps : List (PC N)} {v : Value} (hr : RowD w (PCell w) v ps) (hB : (ps.map pbk).sum + 1 ≤ 1048576) : ∀ p, p ∈ ps → szP p := fun p hp => by
  have hb := (bulk_parts hB).1 p hp
  have hm := mem_sum pbk hp
  obtain ⟨i, hi, rfl⟩ := List.getElem_of_mem hp
  obtain ⟨ao, cap, rfl⟩ := hr.shape
  obtain ⟨-, g, off, -, cs, -, -, co, cc, ka, kc, na, nc, -, -, hks, -⟩ := hr.get hi
  have hsz : ∀ x, x ∈ ps[i].ks → szD N x := fun x hx => by
    obtain ⟨j, hj, rfl⟩ := List.getElem_of_mem hx
    obtain ⟨-, g', off', -, cs', -, -, hdat⟩ := hks.get hj
    exact szD_of N _ w cs' hdat (Nat.le_trans (bk_mem (List.getElem_mem hj)) hb.2.2)
  have hkl : ps[i].ks.length ≤ kc ∧ ps[i].ks.length ≤ 1048576 := by
    refine ⟨by obtain ⟨ao', cap', e, h1, h2, -⟩ := hks; cases e; exact h1, ?_⟩
    have key : ∀ J : List (Tr N), (∀ x, x ∈ J → szD N x) → J.length ≤ (J.map (bk N)).sum := fun J => by
      induction J with
      | nil => intro _; exact Nat.le_refl _
      | cons x J ih =>
        intro hj
        have a := ih (fun y hy => hj y (List.mem_cons_of_mem _ hy))
        have c : 1 ≤ bk N x := by
          have := hj x (List.mem_cons_self ..)
          cases N with
          | zero => exact this.elim
          | succ h =>
            obtain ⟨k', n', b', L', t', I', R'⟩ := x
            show 1 ≤ 2 + L'.length + t'.size + _ + _
            omega
        simp only [List.map_cons, List.sum_cons, List.length_cons]
        omega
    exact Nat.le_trans (key _ hsz) hb.2.2
  have hnm : ps[i].nm.size ≤ 1048576 ∧ (ps[i].ns.map fun s => s.size + 1).sum ≤ 1048576 := by
    unfold pbk at hm hB
    omega
  exact ⟨by omega, by omega, by omega, hsz, by omega, fun s hs => by have := mem_sum (fun s : ByteArray => s.size + 1) hs; omega⟩

theorem By8.right {a b : List Nat} (h : By8 (a ++ b)) : By8 b := fun x hx => h x (List.mem_append.2 (.inr hx))
theorem By8.left {a b : List Nat} (h : By8 (a ++ b)) : By8 a := fun x hx => h x (List.mem_append.2 (.inl hx))
theorem rdG_back : ∀ (f i acc : Nat) (l : List Nat) (n : Nat) (m : List Nat), f ≤ 6 → By8 l → rdG f i acc l = some (n, m) → ∃ v, n = acc + v * 128 ^ i ∧ (i = 0 ∨ 0 < v) ∧ v < 128 ^ f ∧ l = grpB 10 v ++ m
  | 0, _, _, _, _, _, _, _, h => by cases h
  | f + 1, _, _, [], _, _, _, _, h => by cases h
  | f + 1, i, acc, b :: l, n, m, hf, h8, h => by
    rw [rdG_cons] at h
    split at h
    · rename_i hb
      split at h
      · rename_i hc
        cases h
        refine ⟨b, rfl, ?_, ?_, ?_⟩
        · rcases hc.1 with e | e
          · exact .inr e
          · exact .inl e
        · exact Nat.lt_of_lt_of_le hb (by rw [Nat.pow_succ]; exact Nat.le_mul_of_pos_left _ (Nat.pow_pos (by decide)))
        · simp [grpB, hb]
      · cases h
    · rename_i hb
      have hb8 : b < 256 := h8 b (by simp)
      obtain ⟨v, h1, h2, h3, h4⟩ := rdG_back f (i + 1) _ l n m (by omega) (fun x hx => h8 x (by simp [hx])) h
      have hv : 0 < v := by
        rcases h2 with e | e
        · omega
        · exact e
      refine ⟨b % 128 + 128 * v, ?_, .inr (by omega), ?_, ?_⟩
      · rw [h1, Nat.pow_succ, Nat.add_mul, Nat.add_assoc]
        congr 2
        rw [Nat.mul_comm 128 v, Nat.mul_assoc v 128, Nat.mul_comm 128]
      · rw [Nat.pow_succ]
        have : b % 128 < 128 := Nat.mod_lt _ (by decide)
        omega
      · have hv9 : v < 128 ^ 10 := Nat.lt_of_lt_of_le h3 (Nat.pow_le_pow_right (by decide) (by omega))
        have e1 : (b % 128 + 128 * v) / 128 = v := by omega
        have e2 : (b % 128 + 128 * v) % 128 + 128 = b := by omega
        have e3 : ¬ (b % 128 + 128 * v < 128) := by omega
        rw [h4]
        show b :: (grpB 10 v ++ m) = (if b % 128 + 128 * v < 128 then [b % 128 + 128 * v] else ((b % 128 + 128 * v) % 128 + 128) :: grpB 9 ((b % 128 + 128 * v) / 128)) ++ m
        rw [if_neg e3, e1, e2, ← grp_more 9 v hv9]
        rfl
theorem rdNum_back {l m : List Nat} {n : Nat} (h8 : By8 l) (h : rdNum l = some (n, m)) : l = numB n ++ m := by
  obtain ⟨v, h1, -, -, h4⟩ := rdG_back 6 0 0 l n m (Nat.le_refl _) h8 h
  have : n = v := by simpa using h1
  rw [this]
  exact h4
theorem rdSgn_back {l m : List Nat} {v : Int} (h8 : By8 l) (h : rdSgn l = some (v, m)) : l = numB (sgnN v) ++ m ∧ half v = true := by
  unfold rdSgn at h
  split at h
  · cases h
  · rename_i n m' hn
    cases h
    have hle := rdNum_le hn
    have e : sgnN (unS n) = n := by
      unfold sgnN unS
      by_cases ho : n % 2 = 1
      · rw [if_pos ho, if_pos (by omega)]
        omega
      · rw [if_neg ho, if_neg (by omega)]
        omega
    refine ⟨by rw [e]; exact rdNum_back h8 hn, ?_⟩
    unfold half unS
    simp only [Bool.and_eq_true, decide_eq_true_eq]
    by_cases ho : n % 2 = 1
    · rw [if_pos ho]
      omega
    · rw [if_neg ho]
      omega
theorem rdFlag_back {l m : List Nat} {b : Bool} (h : rdFlag l = some (b, m)) : l = flgB b ++ m := by
  match l, h with
  | x :: l, h =>
    simp only [rdFlag] at h
    split at h
    · rename_i hx
      cases h
      by_cases e : x = 1
      · subst e
        rfl
      · have : x = 0 := by omega
        subst this
        rfl
    · cases h
theorem rdCnt_back {k : Nat} {l m : List Nat} {n : Nat} (h8 : By8 l) (h : rdCnt k l = some (n, m)) : l = numB n ++ m ∧ n ≤ m.length / k := by
  unfold rdCnt at h
  split at h
  · cases h
  · rename_i n' m' hn
    split at h
    · rename_i hle
      cases h
      exact ⟨rdNum_back h8 hn, hle⟩
    · cases h
theorem rdLimb_back {l m : List Nat} {n : Nat} (h8 : By8 l) (h : rdLimb l = some (n, m)) : l = numB n ++ m ∧ True := by
  unfold rdLimb at h
  split at h
  · cases h
  · rename_i n' m' hn
    split at h
    · cases h
      exact ⟨rdNum_back h8 hn, trivial⟩
    · cases h
theorem strL_data {l : List Nat} (h8 : By8 l) : byL (strL l).data.toList = l := by
  have e : (strL l).data.toList = l.map fun n => UInt8.ofNat n := by
    unfold strL
    simp [strOfNums]
  rw [e]
  unfold byL
  rw [List.map_map]
  conv => rhs; rw [← List.map_id l]
  refine List.map_congr_left (fun x hx => ?_)
  have := h8 x hx
  simp [UInt8.toNat_ofNat', Nat.mod_eq_of_lt this]
theorem rdTxt_back {l m : List Nat} {t : ByteArray} (h8 : By8 l) (h : rdTxt l = some (t, m)) : l = txtB t ++ m ∧ True := by
  unfold rdTxt at h
  split at h
  · cases h
  · rename_i n m' hn
    cases h
    obtain ⟨e, hle⟩ := rdCnt_back h8 hn
    rw [Nat.div_one] at hle
    have h8m : By8 m' := by rw [e] at h8; exact h8.right
    have h8t : By8 (m'.take n) := fun x hx => h8m x (List.mem_of_mem_take hx)
    have hd := strL_data h8t
    have hsz : (strL (m'.take n)).size = n := by
      have := byL_len (strL (m'.take n))
      rw [hd, List.length_take] at this
      omega
    refine ⟨?_, trivial⟩
    unfold txtB
    rw [hd, hsz, List.append_assoc, List.take_append_drop]
    exact e
theorem rdRow_back {α : Type} {f : List Nat → Option (α × List Nat)} {enc : α → List Nat} {P : α → Prop} (hf : ∀ l x m, By8 l → f l = some (x, m) → l = enc x ++ m ∧ P x) : ∀ (n : Nat) (l : List Nat) (xs : List α) (m : List Nat), By8 l → rdRow f n l = some (xs, m) → l = xs.flatMap enc ++ m ∧ xs.length = n ∧ ∀ x, x ∈ xs → P x
  | 0, l, xs, m, _, h => by
    rw [rdRow_zero] at h
    cases h
    exact ⟨rfl, rfl, fun x hx => by cases hx⟩
  | n + 1, l, xs, m, h8, h => by
    simp only [rdRow] at h
    split at h
    · cases h
    · rename_i x m1 h1
      split at h
      · cases h
      · rename_i ys k h2
        cases h
        obtain ⟨e1, p1⟩ := hf l x m1 h8 h1
        have h8m : By8 m1 := by rw [e1] at h8; exact h8.right
        obtain ⟨e2, l2, p2⟩ := rdRow_back hf n m1 ys m h8m h2
        refine ⟨?_, by simp [l2], ?_⟩
        · rw [e1, e2, List.flatMap_cons, List.append_assoc]
        · intro y hy
          rcases List.mem_cons.1 hy with rfl | hy
          · exact p1
          · exact p2 y hy
theorem rdIns_back {l m : List Nat} {x : Int × Int × Int} (h8 : By8 l) (h : rdIns l = some (x, m)) : l = insB x ++ m ∧ goodI x = true := by
  unfold rdIns at h
  split at h
  · cases h
  · rename_i n l1 h1
    split at h
    · cases h
    · rename_i a l2 h2
      split at h
      · cases h
      · rename_i b m' h3
        cases h
        have e1 := rdNum_back h8 h1
        have h81 : By8 l1 := by rw [e1] at h8; exact h8.right
        obtain ⟨e2, g2⟩ := rdSgn_back h81 h2
        have h82 : By8 l2 := by rw [e2] at h81; exact h81.right
        obtain ⟨e3, g3⟩ := rdSgn_back h82 h3
        refine ⟨?_, ?_⟩
        · unfold insB
          simp only [Int.toNat_natCast]
          rw [e1, e2, e3]
          simp [List.append_assoc]
        · have hle := rdNum_le h1
          simp only [goodI, g2, g3, Bool.and_true, isNum, Bool.and_eq_true, decide_eq_true_eq]
          omega
theorem rdMag_back {l m : List Nat} {b : Bool} {L : List Nat} (h8 : By8 l) (h : rdMag l = some ((b, L), m)) : l = flgB b ++ numB L.length ++ L.flatMap numB ++ m := by
  unfold rdMag at h
  split at h
  · cases h
  · rename_i b' l1 h1
    split at h
    · cases h
    · rename_i n l2 h2
      split at h
      · cases h
      · rename_i xs m' h3
        cases h
        have e1 := rdFlag_back h1
        have h81 : By8 l1 := by rw [e1] at h8; exact h8.right
        obtain ⟨e2, -⟩ := rdCnt_back h81 h2
        have h82 : By8 l2 := by rw [e2] at h81; exact h81.right
        obtain ⟨e3, hl, -⟩ := rdRow_back (fun l x m => rdLimb_back) n l2 L m h82 h3
        rw [e1, e2, e3, hl]
        simp [List.append_assoc]

/-- What a reader of parts comes back from: its bytes, what is so of it, what it spends. -/
def BackP {α : Type} (f : List Nat → Nat → Option (α × List Nat × Nat)) (enc : α → List Nat) (P : α → Prop) (c : α → Nat) : Prop := ∀ l p x m q, By8 l → f l p = some (x, m, q) → l = enc x ++ m ∧ P x ∧ p = q + c x
theorem rdRowP_back {α : Type} {f : List Nat → Nat → Option (α × List Nat × Nat)} {enc : α → List Nat} {P : α → Prop} {c : α → Nat} (hf : BackP f enc P c) : ∀ (n : Nat) (l : List Nat) (p : Nat) (xs : List α) (m : List Nat) (q : Nat), By8 l → rdRowP f n l p = some (xs, m, q) → l = xs.flatMap enc ++ m ∧ xs.length = n ∧ (∀ x, x ∈ xs → P x) ∧ p = q + (xs.map c).sum
  | 0, l, p, xs, m, q, _, h => by
    rw [rdRowP_zero] at h
    cases h
    exact ⟨rfl, rfl, (fun x hx => by cases hx), by simp⟩
  | n + 1, l, p, xs, m, q, h8, h => by
    simp only [rdRowP] at h
    split at h
    · cases h
    · rename_i x m1 q1 h1
      split at h
      · cases h
      · rename_i ys k r h2
        cases h
        obtain ⟨e1, p1, c1⟩ := hf l p x m1 q1 h8 h1
        have h8m : By8 m1 := by rw [e1] at h8; exact h8.right
        obtain ⟨e2, l2, p2, c2⟩ := rdRowP_back hf n m1 q1 ys m q h8m h2
        refine ⟨?_, by simp [l2], ?_, ?_⟩
        · rw [e1, e2, List.flatMap_cons, List.append_assoc]
        · intro y hy
          rcases List.mem_cons.1 hy with rfl | hy
          · exact p1
          · exact p2 y hy
        · rw [List.map_cons, List.sum_cons]
          omega
theorem rdDta_back {α : Type} {f : List Nat → Nat → Option (α × List Nat × Nat)} {enc : α → List Nat} {P : α → Prop} {c : α → Nat} (hf : BackP f enc P c) {l m : List Nat} {p q : Nat} {I : List α} (h8 : By8 l) (h : rdDta f l p = some (I, m, q)) : l = numB I.length ++ I.flatMap enc ++ m ∧ (∀ x, x ∈ I → P x) ∧ p = q + (I.length + (I.map c).sum) := by
  unfold rdDta at h
  split at h
  · cases h
  · rename_i n m1 h1
    split at h
    · rename_i hn
      obtain ⟨e1, -⟩ := rdCnt_back h8 h1
      have h81 : By8 m1 := by rw [e1] at h8; exact h8.right
      obtain ⟨e2, l2, p2, c2⟩ := rdRowP_back hf n m1 (p - n) I m q h81 h
      refine ⟨?_, p2, by omega⟩
      rw [e1, e2, l2, List.append_assoc]
    · cases h
theorem rdRst_back {α : Type} {f : List Nat → Nat → Option (α × List Nat × Nat)} {enc : α → List Nat} {P : α → Prop} {c : α → Nat} (hf : BackP f enc P c) {l m : List Nat} {p q : Nat} {R : List α} (h8 : By8 l) (h : rdRst f l p = some (R, m, q)) : l = flgB (!R.isEmpty) ++ R.flatMap enc ++ m ∧ (∀ x, x ∈ R → P x) ∧ p = q + (R.length + (R.map c).sum) := by
  unfold rdRst at h
  split at h
  · cases h
  · rename_i b m1 h1
    have e1 := rdFlag_back h1
    have h81 : By8 m1 := by rw [e1] at h8; exact h8.right
    split at h
    · rename_i hb
      split at h
      · rename_i hp
        split at h
        · cases h
        · rename_i d k q' h2
          cases h
          obtain ⟨e2, p2, c2⟩ := hf m1 (p - 1) d m q h81 h2
          refine ⟨?_, ?_, ?_⟩
          · rw [e1, e2, hb]
            simp
          · intro y hy
            rw [List.mem_singleton] at hy
            subst hy
            exact p2
          · simp
            omega
      · cases h
    · rename_i hb
      cases h
      refine ⟨?_, (fun x hx => by cases hx), by simp⟩
      rw [e1, Bool.eq_false_iff.2 hb]
      simp
theorem sum_ptsB {h : Nat} (I : List (Tr h)) (hp : ∀ d, d ∈ I → 1 ≤ ptsD h d) : I.length + (I.map fun d => ptsD h d - 1).sum = (I.map (ptsD h)).sum := by
  induction I with
  | nil => rfl
  | cons x I ih =>
    have h1 := hp x (by simp)
    have h2 := ih (fun d hd => hp d (by simp [hd]))
    simp only [List.length_cons, List.map_cons, List.sum_cons]
    omega
theorem pts_posB {h dp : Nat} {d : Tr h} (hg : goodD h dp d = true) : 1 ≤ ptsD h d := by
  cases h with
  | zero => simp [goodD] at hg
  | succ h => unfold ptsD; omega

theorem rdDat_back : ∀ (h dp : Nat), BackP (rdDat h dp) (datB h) (fun d => goodD h dp d = true) (fun d => ptsD h d - 1)
  | 0, dp => by
    intro l p x m q _ hx
    simp [rdDat] at hx
  | h + 1, 0 => by
    intro l p x m q _ hx
    simp [rdDat] at hx
  | h + 1, dp + 1 => by
    intro l p x m q h8 hx
    have ih := rdDat_back h dp
    simp only [rdDat] at hx
    split at hx
    · cases hx
    · rename_i k l1 hk
      split at hx
      · cases hx
      · rename_i d m' q' hd
        split at hx
        · rename_i hfit
          cases hx
          have e1 := rdNum_back h8 hk
          have h81 : By8 l1 := by rw [e1] at h8; exact h8.right
          have hgood : ∀ (I R : List (Tr h)), x.2.2.2.2.2.1 = I → x.2.2.2.2.2.2 = R → (∀ y, y ∈ I → goodD h dp y = true) → (∀ y, y ∈ R → goodD h dp y = true) → goodD (h + 1) (dp + 1) x = true := by
            intro I R eI eR hI hR
            simp only [goodD, hfit, Bool.true_and, Bool.and_eq_true, List.all_eq_true]
            rw [eI, eR]
            exact ⟨hI, hR⟩
          unfold rdFld at hd
          split at hd
          · rename_i hk1
            subst hk1
            split at hd
            · cases hd
            · rename_i b L m2 hm
              cases hd
              have e2 := rdMag_back h81 hm
              refine ⟨?_, hgood [] [] rfl rfl (fun y hy => by cases hy) (fun y hy => by cases hy), by simp [ptsD]⟩
              rw [e1, e2]
              simp [datB]
          · rename_i hk1
            split at hd
            · rename_i hk2
              split at hd
              · cases hd
              · rename_i v m2 hm
                cases hd
                obtain ⟨e2, -⟩ := rdSgn_back h81 hm
                refine ⟨?_, hgood [] [] rfl rfl (fun y hy => by cases hy) (fun y hy => by cases hy), by simp [ptsD]⟩
                rw [e1, e2]
                rcases hk2 with rfl | rfl | rfl <;> simp [datB]
            · rename_i hk2
              split at hd
              · rename_i hk4
                subst hk4
                split at hd
                · cases hd
                · rename_i t m2 hm
                  cases hd
                  obtain ⟨e2, -⟩ := rdTxt_back h81 hm
                  refine ⟨?_, hgood [] [] rfl rfl (fun y hy => by cases hy) (fun y hy => by cases hy), by simp [ptsD]⟩
                  rw [e1, e2]
                  simp [datB]
              · rename_i hk4
                split at hd
                · rename_i hk5
                  subst hk5
                  split at hd
                  · cases hd
                  · rename_i t m2 hm
                    split at hd
                    · cases hd
                    · rename_i v m3 hm3
                      cases hd
                      obtain ⟨e2, -⟩ := rdTxt_back h81 hm
                      have h82 : By8 m2 := by rw [e2] at h81; exact h81.right
                      obtain ⟨e3, -⟩ := rdSgn_back h82 hm3
                      refine ⟨?_, hgood [] [] rfl rfl (fun y hy => by cases hy) (fun y hy => by cases hy), by simp [ptsD]⟩
                      rw [e1, e2, e3]
                      simp [datB]
                · rename_i hk5
                  split at hd
                  · rename_i hk6
                    subst hk6
                    split at hd
                    · cases hd
                    · rename_i I m2 q2 hm
                      split at hd
                      · cases hd
                      · rename_i R m3 q3 hm3
                        cases hd
                        obtain ⟨e2, g2, c2⟩ := rdDta_back ih h81 hm
                        have h82 : By8 m2 := by rw [e2] at h81; exact h81.right
                        obtain ⟨e3, g3, c3⟩ := rdRst_back ih h82 hm3
                        refine ⟨?_, hgood I R rfl rfl g2 g3, ?_⟩
                        · rw [e1, e2, e3]
                          simp [datB]
                        · have s1 := sum_ptsB I (fun d hd => pts_posB (g2 d hd))
                          have s2 := sum_ptsB R (fun d hd => pts_posB (g3 d hd))
                          simp only [ptsD]
                          omega
                  · rename_i hk6
                    split at hd
                    · rename_i hk7
                      subst hk7
                      split at hd
                      · cases hd
                      · rename_i I m2 q2 hm
                        cases hd
                        obtain ⟨e2, g2, c2⟩ := rdDta_back ih h81 hm
                        refine ⟨?_, hgood I [] rfl rfl g2 (fun y hy => by cases hy), ?_⟩
                        · rw [e1, e2]
                          simp [datB]
                        · have s1 := sum_ptsB I (fun d hd => pts_posB (g2 d hd))
                          simp only [ptsD, List.map_nil, List.sum_nil]
                          omega
                    · rename_i hk7
                      cases hd
                      refine ⟨?_, hgood [] [] rfl rfl (fun y hy => by cases hy) (fun y hy => by cases hy), by simp [ptsD]⟩
                      rw [e1]
                      have a1 : ¬ ((k : Int) = 1) := by omega
                      have a2 : ¬ ((k : Int) = 2 ∨ (k : Int) = 3 ∨ (k : Int) = 9) := by omega
                      have a4 : ¬ ((k : Int) = 4) := by omega
                      have a5 : ¬ ((k : Int) = 5) := by omega
                      have a6 : ¬ ((k : Int) = 6) := by omega
                      have a7 : ¬ ((k : Int) = 7) := by omega
                      simp only [datB, a1, a2, a4, a5, a6, a7, if_false, Int.toNat_natCast, List.append_nil]
        · cases hx

theorem rdPro_back (h : Nat) : BackP (rdPro h) proB (fun p => goodP p = true) (fun p => ptsA h p.ks) := by
  intro l p x m q h8 hx
  unfold rdPro at hx
  split at hx
  · cases hx
  · rename_i nm l1 h1
    obtain ⟨e1, -⟩ := rdTxt_back h8 h1
    have k1 : By8 l1 := by rw [e1] at h8; exact h8.right
    split at hx
    · cases hx
    · rename_i ar l2 h2
      have e2 := rdNum_back k1 h2
      have k2 : By8 l2 := by rw [e2] at k1; exact k1.right
      split at hx
      · cases hx
      · rename_i rs l3 h3
        have e3 := rdFlag_back h3
        have k3 : By8 l3 := by rw [e3] at k2; exact k2.right
        split at hx
        · cases hx
        · rename_i fr l4 h4
          have e4 := rdNum_back k3 h4
          have k4 : By8 l4 := by rw [e4] at k3; exact k3.right
          split at hx
          · cases hx
          · rename_i n l5 h5
            obtain ⟨e5, -⟩ := rdCnt_back k4 h5
            have k5 : By8 l5 := by rw [e5] at k4; exact k4.right
            split at hx
            · cases hx
            · rename_i cd l6 h6
              obtain ⟨e6, n6, g6⟩ := rdRow_back (fun l x m => rdIns_back) n l5 cd l6 k5 h6
              have k6 : By8 l6 := by rw [e6] at k5; exact k5.right
              split at hx
              · cases hx
              · rename_i ks l7 q7 h7
                obtain ⟨e7, g7, c7⟩ := rdDta_back (rdDat_back h 100) k6 h7
                have k7 : By8 l7 := by rw [e7] at k6; exact k6.right
                split at hx
                · cases hx
                · rename_i n2 l8 h8'
                  obtain ⟨e8, -⟩ := rdCnt_back k7 h8'
                  have k8 : By8 l8 := by rw [e8] at k7; exact k7.right
                  split at hx
                  · cases hx
                  · rename_i ns l9 h9
                    cases hx
                    obtain ⟨e9, n9, -⟩ := rdRow_back (fun l x m => rdTxt_back) n2 l8 ns m k8 h9
                    refine ⟨?_, ?_, ?_⟩
                    · rw [e1, e2, e3, e4, e5, e6, e7, e8, e9]
                      simp [proB, n6, n9, List.append_assoc]
                    · have a1 := rdNum_le h2
                      have a2 := rdNum_le h4
                      have i1 : isNum ((ar : Nat) : Int) = true := by simp only [isNum, Bool.and_eq_true, decide_eq_true_eq]; omega
                      have i2 : isNum ((fr : Nat) : Int) = true := by simp only [isNum, Bool.and_eq_true, decide_eq_true_eq]; omega
                      simp only [goodP, i1, i2, Bool.true_and, Bool.and_eq_true, List.all_eq_true]
                      exact ⟨g6, g7⟩
                    · have s1 := sum_ptsB ks (fun d hd => pts_posB (g7 d hd))
                      simp only [ptsA]
                      omega
theorem rdPrg_back {h : Nat} {l : List Nat} {ps : List (PC h)} (h8 : By8 l) (hx : rdPrg h l 20000 = some ps) : l = pgB ps ∧ mayW ps = true := by
  unfold rdPrg at hx
  split at hx
  · rename_i h4
    split at hx
    · cases hx
    · rename_i n m hn
      split at hx
      · cases hx
      · rename_i qs k r hr
        split at hx
        · rename_i hk
          cases hx
          have h8d : By8 (l.drop 4) := fun x hx => h8 x (List.mem_of_mem_drop hx)
          obtain ⟨e1, -⟩ := rdCnt_back h8d hn
          have h8m : By8 m := by rw [e1] at h8d; exact h8d.right
          obtain ⟨e2, n2, g2, c2⟩ := rdRowP_back (rdPro_back h) n m 20000 ps k r h8m hr
          refine ⟨?_, ?_⟩
          · rw [← List.take_append_drop 4 l, h4, e1, e2, hk, List.append_nil]
            unfold pgB
            rw [n2, List.append_assoc]
          · unfold mayW
            rw [Bool.and_eq_true, decide_eq_true_eq, List.all_eq_true]
            refine ⟨g2, ?_⟩
            unfold kA
            rw [List.take_length]
            omega
        · cases hx
  · cases hx

end Go.Proofs.Ytilcigjhogcjkaa
