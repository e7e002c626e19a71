/-
  What is proved here: which words are symbols, and their names; they stay so while more is laid, and behind a collection; no walk.
-/
import Derived.Test.YtchdfenickjiiaaVKeep2
import Derived.Test.YtchdfenickjiiaaVName
import Derived.Test.YtchdfenickjiiaaVIntern2
namespace Go.Proofs.Ytchdfenickjiiaa
open Go Go.RowKit

def nameG (s : ByteArray) : Nat → Nat := fun i => (s.data.toList.getD i 0).toNat

/-- Word x is the symbol at p of the name s, whose text is at q. -/
structure SymA (n : Nat) (f : Nat → Nat) (st : Nat → Bool) (p q : Nat) (s : ByteArray) : Prop where
  sp : st p = true
  hp : f p = hOf 4 1 0
  fp : f (p + 1) = 4 * q
  ep : p + 2 ≤ n
  sq : st q = true
  hq : f q = hOf 3 0 (1 + (s.size + 7) / 8)
  wq : ∀ i, i < 1 + (s.size + 7) / 8 → f (q + 1 + i) = textW (nameG s) s.size i
  eq : q + 1 + (1 + (s.size + 7) / 8) ≤ n
  small : s.size ≤ 1000
def SymW (n : Nat) (f : Nat → Nat) (st : Nat → Bool) (x : Nat) (s : ByteArray) : Prop := ∃ p q, x = 4 * p ∧ SymA n f st p q s

theorem SymW.old {n n' : Nat} {f f' : Nat → Nat} {st st' : Nat → Bool} {x : Nat} {s : ByteArray} (h : SymW n f st x s) (ho : ∀ j, j < n → f' j = f j ∧ (st j = true → st' j = true)) (hn : n ≤ n') : SymW n' f' st' x s := by
  obtain ⟨p, q, rfl, h⟩ := h
  have h1 := h.ep
  have h2 := h.eq
  exact ⟨p, q, rfl, (ho p (by omega)).2 h.sp, (ho p (by omega)).1.trans h.hp, (ho _ (by omega)).1.trans h.fp, by omega, (ho q (by omega)).2 h.sq, (ho q (by omega)).1.trans h.hq, fun i hi => (ho _ (by omega)).1.trans (h.wq i hi), by omega, h.small⟩

theorem nameG_lt (s : ByteArray) (i : Nat) : nameG s i < 256 := UInt8.toNat_lt _
theorem textW_inj {g g' : Nat → Nat} {len len' : Nat} (hg : ∀ i, g i < 256) (hg' : ∀ i, g' i < 256) (hl : len = len') (h : ∀ i, i < 1 + (len + 7) / 8 → textW g len i = textW g' len' i) : ∀ i, i < len → g i = g' i := by
  subst hl
  intro i hi
  have := h (i / 8 + 1) (by omega)
  unfold textW at this
  rw [if_neg (by omega), if_neg (by omega), Nat.add_sub_cancel] at this
  unfold wordOf at this
  have := num_inj (fun j _ => hg _) (fun j _ => hg' _) this (i % 8) (by unfold clen; omega)
  rw [show 8 * (i / 8) + i % 8 = i by omega] at this
  exact this
theorem name_ext {s t : ByteArray} (hs : s.size = t.size) (h : ∀ i, i < s.size → nameG s i = nameG t i) : s = t := by
  have h1 : s.data.toList = t.data.toList := by
    apply List.ext_getElem?
    intro i
    have e1 : s.data.toList.length = s.size := by rw [Array.length_toList]; rfl
    have e2 : t.data.toList.length = t.size := by rw [Array.length_toList]; rfl
    rcases Nat.lt_or_ge i s.size with hi | hi
    · have := h i hi
      unfold nameG at this
      have := UInt8.toNat_inj.1 this
      rw [List.getElem?_eq_getElem (by omega), List.getElem?_eq_getElem (by omega)]
      rw [List.getD_eq_getElem?_getD, List.getD_eq_getElem?_getD, List.getElem?_eq_getElem (by omega), List.getElem?_eq_getElem (by omega)] at this
      exact congrArg some this
    · rw [List.getElem?_eq_none (by omega), List.getElem?_eq_none (by omega)]
  exact ByteArray.ext (Array.toList_inj.1 h1)
/-- A word has one name. -/
theorem SymW.inj {n : Nat} {f : Nat → Nat} {st : Nat → Bool} {x : Nat} {s t : ByteArray} (h : SymW n f st x s) (k : SymW n f st x t) : s = t := by
  obtain ⟨p, q, rfl, h⟩ := h
  obtain ⟨p', q', e, k⟩ := k
  have ep : p = p' := by omega
  subst ep
  have eq : q = q' := by have := h.fp.symm.trans k.fp; omega
  subst eq
  have h0 := (h.wq 0 (by omega)).symm.trans (k.wq 0 (by omega))
  have hl : s.size = t.size := h0
  refine name_ext hl (textW_inj (nameG_lt s) (nameG_lt t) hl (fun i hi => ?_))
  exact (h.wq i hi).symm.trans (k.wq i (by omega))
theorem SymW.lt {n : Nat} {f : Nat → Nat} {st : Nat → Bool} {x : Nat} {s : ByteArray} (h : SymW n f st x s) (hn : n ≤ 1048576) : x < 18446744073709551616 ∧ x / 4 < n := by
  obtain ⟨p, q, rfl, h⟩ := h
  have := h.ep
  omega

/-- Name of a symbol's word. -/
theorem strG_name (s : ByteArray) : strG (nameG s) s.size = s := by
  have hz : (strG (nameG s) s.size).size = s.size := by unfold strG; rw [strOfNums_size]; simp
  refine name_ext hz fun i hi => ?_
  rw [hz] at hi
  have : (strG (nameG s) s.size).data.toList.getD i 0 = UInt8.ofNat (nameG s i) := by
    unfold strG
    rw [strOfNums_data, List.getD_eq_getElem?_getD]
    simp [hi]
  show ((strG (nameG s) s.size).data.toList.getD i 0).toNat = _
  rw [this]
  have := nameG_lt s i
  simp
  omega

/-- Behind a collection a symbol that was moved is one still, of the same name. -/
theorem SymW.coll {n : Nat} {f : Nat → Nat} {st : Nat → Bool} {R : Nat → Prop} {S : MS} {x : Nat} {s : ByteArray} (h : SymW n f st x s) (ho : MSok n f st S) (hg : Gr f st R S S.n) (hs : Sure st S x) : SymW S.n S.f S.st (mvF st S x) s := by
  obtain ⟨p, q, rfl, h⟩ := h
  have ip : isPtr st (4 * p) = true := by unfold isPtr; rw [show 4 * p / 4 = p by omega, h.sp, show 4 * p % 4 = 0 by omega]; rfl
  have iq : isPtr st (4 * q) = true := by unfold isPtr; rw [show 4 * q / 4 = q by omega, h.sq, show 4 * q % 4 = 0 by omega]; rfl
  have hp0 : S.fw p ≠ 0 := by have := hs ip; rwa [show 4 * p / 4 = p by omega] at this
  obtain ⟨_, w2, w3, w4⟩ := ho.went p hp0
  have t1 : hTag (f p) = 1 := by rw [h.hp, hTag_of (by decide) (by decide)]
  have hsm := h.small
  have i1 := (ho.good.inn _ w3).2
  rw [w4] at i1
  have l1 : hLen (f p) = 2 := by unfold hLen; rw [h.hp, hTag_of (by decide) (by decide), hRaw_of (by decide) (by decide) (by decide)]
  rw [l1] at i1
  obtain ⟨n1, n2⟩ := hg.new p hp0 1 (Nat.le_refl _) (by omega) (by omega)
  rw [h.fp] at n1 n2
  have hq0 : S.fw q ≠ 0 := by have := n2 iq; rwa [show 4 * q / 4 = q by omega] at this
  obtain ⟨_, v2, v3, v4⟩ := ho.went q hq0
  have t2 : hTag (f q) = 0 := by rw [h.hq, hTag_of (by decide) (by decide)]
  have l2 : hLen (f q) = 1 + (1 + (s.size + 7) / 8) := by unfold hLen; rw [h.hq, hTag_of (by decide) (by decide), hRaw_of (by decide) (by decide) (by omega)]
  have i2 := (ho.good.inn _ v3).2
  rw [v4, l2] at i2
  refine ⟨S.fw p, S.fw q, ?_, w3, w4.trans h.hp, ?_, by omega, v3, v4.trans h.hq, fun i hi => ?_, by omega, h.small⟩
  · unfold mvF
    rw [if_pos ip, show 4 * p / 4 = p by omega]
  · rw [n1]
    unfold mvF
    rw [if_pos iq, show 4 * q / 4 = q by omega]
  · have := hg.raw q hq0 (1 + i) (by omega) (.inr (by omega))
    rw [← Nat.add_assoc, ← Nat.add_assoc] at this
    exact this.trans (h.wq i hi)

theorem name_sym (w : World) (sb hb : Nat) (X : Nat → Prop) (sz : Nat) (tm : Int) (n : Nat) (f : Nat → Nat) (st : Nat → Bool) (x : Nat) (s : ByteArray) (h : HeapAt w hb X sz tm n f st) (hS : w.cell? ⟨sb, 0, none⟩ = some (.pointer (some ⟨hb, 0, none⟩))) (hx : SymW n f st x s) :
    Calls Try.prog 19 #[.pointer (some ⟨sb, 0, none⟩), .int .u64 (x : Int)] w fun e w' => e = .returned (.tuple #[.string s, .bool true]) ∧ Fr (fun _ => False) w w' := by
  have hz := h.good.2.2
  obtain ⟨hx1, _⟩ := hx.lt (by omega)
  obtain ⟨p, q, rfl, k⟩ := hx
  have ip : isPtr st (4 * p) = true := by unfold isPtr; rw [show 4 * p / 4 = p by omega, k.sp, show 4 * p % 4 = 0 by omega]; rfl
  have iq : isPtr st (4 * q) = true := by unfold isPtr; rw [show 4 * q / 4 = q by omega, k.sq, show 4 * q % 4 = 0 by omega]; rfl
  have hd : headOf f st (4 * p) = hOf 4 1 0 := by rw [headOf_yes ip, show 4 * p / 4 = p by omega, k.hp]
  have e1 := k.eq
  have hsm := k.small
  have := name_yes w sb hb X sz tm n f st (4 * p) (4 * q) (nameG s) s.size h hS hx1 (by omega) (by rw [hd]; unfold shapeB; rw [hKind_of (by decide), hTag_of (by decide) (by decide), hRaw_of (by decide) (by decide) (by decide)]; rfl) (by unfold fieldAt; rw [hd, hTag_of (by decide) (by decide), if_pos (by decide), show 4 * p / 4 = p by omega]; exact k.fp) ⟨iq, by rw [show 4 * q / 4 = q by omega]; exact k.hq, fun i hi => by rw [show 4 * q / 4 = q by omega, Nat.add_zero]; exact k.wq i hi, fun i _ => nameG_lt s i, by omega⟩
  rw [strG_name] at this
  exact this

/-- A new symbol. -/
theorem symF_sym {n : Nat} {f : Nat → Nat} {st : Nat → Bool} {s : ByteArray} (hs : s.size ≤ 1000) : SymW (symN n s + 1 + 1 + 0) (symF f n s) (also (also st n) (symN n s)) (4 * symN n s) s := by
  have hN : symN n s = n + 1 + 0 + (1 + (s.size + 7) / 8) := rfl
  refine ⟨symN n s, n, rfl, ?_, ?_, ?_, by omega, ?_, ?_, fun i hi => ?_, by omega, hs⟩
  · simp [also]
  · unfold symF
    rw [← hN, tagF_head]
  · unfold symF
    rw [← hN]
    show tagF _ _ _ _ _ _ = _
    unfold tagF
    rw [if_pos (by omega)]
  · simp [also]
  · unfold symF
    rw [← hN]
    show tagF _ (symN n s) _ _ _ n = _
    unfold tagF
    rw [if_neg (by omega), laid_old (by omega)]
    show tagF f n _ _ _ n = _
    rw [tagF_head]
  · unfold symF
    rw [← hN]
    have e : n + 1 + i < symN n s := by omega
    unfold tagF
    rw [if_neg (by omega), laid_old e, if_pos (by omega), show n + 1 + i - (n + 1) = i by omega]
    rfl
theorem symF_old {n : Nat} {f : Nat → Nat} {st : Nat → Bool} {s : ByteArray} : ∀ j, j < n → symF f n s j = f j ∧ (st j = true → also (also st n) (symN n s) j = true) := fun j hj => by
  have hN : symN n s = n + 1 + 0 + (1 + (s.size + 7) / 8) := rfl
  refine ⟨?_, fun e => by simp [also, e]⟩
  unfold symF
  rw [← hN]
  unfold tagF
  rw [if_neg (by omega), laid_old (by omega), if_neg (by omega), laid_old hj]

theorem pigeon : ∀ (N m : Nat) (g : Nat → Nat), (∀ i, i < m → g i < N) → (∀ i j, i < m → j < m → g i = g j → i = j) → m ≤ N
  | 0, m, g, h, _ => by
    rcases Nat.eq_zero_or_pos m with e | e
    · omega
    · have := h 0 e; omega
  | N + 1, m, g, h, hi => by
    by_cases e : ∃ i, i < m ∧ g i = N
    · obtain ⟨i0, h1, h2⟩ := e
      have := pigeon N (m - 1) (fun i => if i = i0 then g (m - 1) else g i) (fun i hk => by
        show (if i = i0 then g (m - 1) else g i) < N
        split
        · rename_i e2
          have h3 := h (m - 1) (by omega)
          have h4 : g (m - 1) ≠ N := fun e3 => by have := hi (m - 1) i0 (by omega) h1 (by omega); omega
          omega
        · rename_i e2
          have h3 := h i (by omega)
          have h4 : g i ≠ N := fun e3 => e2 (hi i i0 (by omega) h1 (by omega))
          omega) (fun i j hk hj he => by
        have he : (if i = i0 then g (m - 1) else g i) = (if j = i0 then g (m - 1) else g j) := he
        split at he <;> split at he
        · omega
        · have := hi _ _ (by omega) (by omega) he; omega
        · have := hi _ _ (by omega) (by omega) he; omega
        · exact hi _ _ (by omega) (by omega) he)
      omega
    · have := pigeon N m g (fun i hk => by
        have := h i hk
        have h4 : g i ≠ N := fun e3 => e ⟨i, hk, e3⟩
        omega) hi
      omega

end Go.Proofs.Ytchdfenickjiiaa
