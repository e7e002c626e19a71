/-
  What is proved here: what NatSums and NatProducts share: the lists that are handed in, copied one behind the other; append under a guard.
-/
import Derived.Test.YtpagphcioeefdaaDoorRef5
import Derived.Test.YtpagphcioeefdaaDoorUp
import Derived.Maps.AppendAt
namespace Go.Proofs.YtpagphcioeefdaaDoor
open Go Go.RowKit

theorem wpList_wanted {P : Program} {ops : Array Oper} {Q : Exit → Act → World → Prop} {a : Act} {w : World} {rest : List Oper} {o : Oper} (hw : Region.wanted o (yielded ops a.tmps) = true) (h : ∀ K : Act → World → Prop, (∀ a w, wpList P ops Q rest a w → K a w) → o.wp P a w K Q) : wpList P ops Q (o :: rest) a w :=
  wpList_step fun K hK => by rw [if_pos hw]; exact h K hK
/-- append onto a row of the call's own, under a guard that lets it by. -/
theorem wpList_append_own_g {P : Program} {ops : Array Oper} {Q : Exit → Act → World → Prop} {a : Act} {rest : List Oper} {o : Oper} (w : World) (hw : Region.wanted o (yielded ops a.tmps) = true) (s x : Operand) (t : TypeId)
    (ho : o.op = .call { callee := .builtin .append, args := #[s, x], argTypes := #[t, t] })
    (base : Nat) (e : TypeId) (i : TypeInfo) (z : Value) (size bytes : Nat) (ht : P.underlying t = some (.slice e)) (hi : P.info? e = some i) (hz : i.zero = some z)
    (hsize : i.size = size) (hby : i.bytes = bytes) (hzs : z.cells.size = size) (hsz : 0 < size)
    (v : Value) (n : Nat) (xs : List Value) (hs : a.eval s = v) (hown : w.ownsRow base e size v n xs)
    (ad : Addr) (m c : Nat) (news : List Value) (hx : a.eval x = .slice (some ad) m c) (hl : news.length = m * size) (hnews : ∀ j u, news[j]? = some u → w.cell? (ad.add j) = some u) (h1 : ∀ u ∈ news, u.oneCell' = true)
    (h63 : n + m ≤ maxLen) (hbytes : (n + m) * bytes ≤ 140737488355328) (hbase : base ≤ w.heap.size)
    (h : ∀ v' w', w'.ownsRow base e size v' (n + m) (xs ++ news) → w.grownBy w' v.ownBlock → (v' = .slice none 0 0 ↔ v = .slice none 0 0 ∧ m = 0) → wpList P ops Q rest (a.put o.dst v') w') : wpList P ops Q (o :: rest) a w :=
  wpList_wanted hw fun _ hK => wp_append_own w s x t ho base e i z size bytes ht hi hz hsize hby hzs hsz v n xs hs hown ad m c news hx hl hnews h1 h63 hbytes hbase fun v' w' h2 h3 h4 => hK _ _ (h v' w' h2 h3 h4)

def updA {α : Type} (f : Nat → α) (i : Nat) (x : α) : Nat → α := fun j => if j = i then x else f j
theorem updA_same {α : Type} (f : Nat → α) (i : Nat) (x : α) : updA f i x i = x := by simp [updA]
theorem updA_other {α : Type} {f : Nat → α} {i j : Nat} {x : α} (h : j ≠ i) : updA f i x j = f j := by simp [updA, h]
theorem valsOf_push (va : Nat → Value) (k : Nat) (v : Value) : valsOf va k ++ [v] = valsOf (updA va k v) (k + 1) := by
  apply List.ext_getElem?
  intro i
  rcases Nat.lt_trichotomy i k with h | h | h
  · rw [List.getElem?_append_left (by rw [valsOf_length]; exact h), valsOf_get _ _ _ h, valsOf_get _ _ _ (by omega), updA_other (by omega)]
  · subst h
    rw [List.getElem?_append_right (by rw [valsOf_length]; exact Nat.le_refl _), valsOf_length, valsOf_get _ _ _ (by omega), updA_same]
    simp
  · rw [List.getElem?_eq_none (by rw [List.length_append, valsOf_length]; simp; omega), List.getElem?_eq_none (by rw [valsOf_length]; omega)]
theorem Rds.of_row {w : World} {base : Nat} {v : Value} {k : Nat} {va : Nat → Value} (h : w.ownsRow base 22 1 v k (valsOf va k)) : ∃ mo cap, v = .slice mo k cap ∧ (mo = none → cap = 0) ∧ Rds w mo k va := by
  rcases id h.2 with ⟨rfl, rfl⟩ | ⟨g, cap, cur, rfl, h1, h2, h3, h4, h5, h6⟩
  · exact ⟨none, 0, rfl, fun _ => rfl, .inl rfl⟩
  · exact ⟨some ⟨g, 0, none⟩, cap, rfl, (fun e => by cases e), .inr ⟨g, 0, rfl, fun i hi => by rw [Nat.zero_add, h.cellAt i (by omega), valsOf_get va k i hi]⟩⟩
theorem one_slice (ao : Option Addr) (n cap : Nat) : ∀ u ∈ [Value.slice ao n cap], u.oneCell' = true := by
  intro u hu
  simp only [List.mem_cons, List.not_mem_nil, or_false] at hu
  subst hu
  rfl
theorem ownsRow_up {w w' : World} {base : Nat} {E : TypeId} {size : Nat} {v : Value} {n : Nat} {xs : List Value} (h : w.ownsRow base E size v n xs) (u : Up w w') : w'.ownsRow base E size v n xs :=
  h.kept (row := none) ⟨u.os, u.tape, u.output, u.size, fun k hk _ => u.block k hk⟩ (by
    cases hv : v.ownBlock with
    | none => exact .inl rfl
    | some g => exact .inr (by simp))
theorem Own.block_lt {k : IntKind} {E : TypeId} {w : World} {base : Nat} {v : Value} {n : Nat} {f : Nat → Nat} (h : Own k E w base v n f) : ∀ g, v.ownBlock = some g → base ≤ g ∧ g < w.heap.size := by
  intro g hg
  rcases h with ⟨rfl, rfl⟩ | ⟨g', cap, rfl, h1, h2, h3⟩
  · cases hg
  · cases hg
    exact ⟨h1, h3.lt⟩
theorem Own.kept {k : IntKind} {E : TypeId} {w w' : World} {base : Nat} {v : Value} {n : Nat} {f : Nat → Nat} {row : Option Nat} (h : Own k E w base v n f) (hg : w.grownBy w' row) (hne : ∀ g, v.ownBlock = some g → row ≠ some g) : Own k E w' base v n f := by
  rcases h with ⟨rfl, rfl⟩ | ⟨g', cap, rfl, h1, h2, h3⟩
  · exact .inl ⟨rfl, rfl⟩
  · exact .inr ⟨g', cap, rfl, h1, h2, h3.block (hg.block g' h3.lt (fun e => hne g' rfl e.symm))⟩

/-- j copies, each in a block of its own, none in the row that holds them. -/
def Copies (W : World) (base : Nat) (row : Value) (j : Nat) (va : Nat → Value) (ns : Nat → Nat) (fs : Nat → Nat → Nat) : Prop :=
  ∀ i, i < j → Own .u32 41 W base (va i) (ns i) (fs i) ∧ ∀ g, (va i).ownBlock = some g → row.ownBlock ≠ some g
theorem Copies.push {W w1 W1 w4 : World} {base N : Nat} {row row' v : Value} {j : Nat} {va : Nat → Value} {ns : Nat → Nat} {fs : Nat → Nat → Nat} (h : Copies W base row j va ns fs)
    (hb : base ≤ W.heap.size) (u1 : Up W w1) (ho : Own .u32 41 w1 W.heap.size v (ns j) (fs j)) (hW1 : Up w1 W1) (hg : W1.grownBy w4 row.ownBlock) (hrow : ∀ g, row.ownBlock = some g → g < W.heap.size)
    (hat : row'.ownBlock = row.ownBlock ∨ row'.ownBlock = some N) (hN : N = W1.heap.size) : Copies w4 base row' (j + 1) (updA va j v) ns fs := by
  subst hN
  have s1 := Below.size u1
  have s2 := Below.size hW1
  intro i hi
  by_cases e : i = j
  · subst e
    rw [updA_same]
    have hlt := ho.block_lt
    refine ⟨((ho.up hW1).kept hg (fun g h1 h2 => ?_)).mono hb, fun g h1 h2 => ?_⟩
    · have := hlt g h1
      have := hrow g h2
      omega
    · have h3 := hlt g h1
      rcases hat with e | e
      · have := hrow g (e ▸ h2)
        omega
      · rw [e] at h2
        cases h2
        omega
  · rw [updA_other e]
    obtain ⟨h1, h2⟩ := h i (by omega)
    have hlt := h1.block_lt
    refine ⟨((h1.up u1).up hW1).kept hg (fun g h3 h4 => h2 g h3 h4), fun g h3 h4 => ?_⟩
    have h5 := hlt g h3
    rcases hat with e | e
    · exact h2 g h3 (e ▸ h4)
    · rw [e] at h4
      cases h4
      omega

theorem total_two (n m : Nat) (f q : Nat → Nat) (ns : Nat → Nat) (fs : Nat → Nat → Nat) (k : Nat) : total (two n m ns) (two f q fs) (2 + k) = num 4294967296 f n + num 4294967296 q m + total ns fs k := by
  induction k with
  | zero => simp [total, two]
  | succ k ih =>
    show total (two n m ns) (two f q fs) (2 + k) + num 4294967296 (two f q fs (2 + k)) (two n m ns (2 + k)) = _ + (total ns fs k + num 4294967296 (fs k) (ns k))
    rw [ih, two_two, two_two]
    omega

end Go.Proofs.YtpagphcioeefdaaDoor
