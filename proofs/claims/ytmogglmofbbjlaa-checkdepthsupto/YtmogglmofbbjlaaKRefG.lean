/-
  What is proved here: what the document's walk does at one place, as the plain model has it; what it keeps in memory meanwhile; no walk.
-/
import Derived.Test.YtmogglmofbbjlaaKRefF
namespace Go.Proofs.Ytmogglmofbbjlaa
open Go Go.RowKit

/-- The least place from m on that is to be looked at, as it is searched for from behind. -/
def AtP (len m : Nat) (T : Nat → Bool) (u : Int) : Prop :=
  (u = -1 ∧ ∀ j, m ≤ j → j < len → T j = false) ∨ ∃ x : Nat, u = (x : Int) ∧ m ≤ x ∧ x < len ∧ T x = true ∧ ∀ j, m ≤ j → j < x → T j = false
theorem AtP.start (len : Nat) (T : Nat → Bool) : AtP len len T (-1) := .inl ⟨rfl, fun j h1 h2 => by omega⟩
theorem AtP.yes {len m : Nat} {T : Nat → Bool} (hm : m < len) (ht : T m = true) : AtP len m T (m : Int) := .inr ⟨m, rfl, Nat.le_refl _, hm, ht, fun j h1 h2 => by omega⟩
theorem AtP.no {len m : Nat} {T : Nat → Bool} {u : Int} (h : AtP len (m + 1) T u) (ht : T m = false) : AtP len m T u := by
  rcases h with ⟨e, h⟩ | ⟨x, e, h1, h2, h3, h4⟩
  · exact .inl ⟨e, fun j a b => by
      by_cases ej : j = m
      · rw [ej]; exact ht
      · exact h j (by omega) b⟩
  · exact .inr ⟨x, e, by omega, h2, h3, fun j a b => by
      by_cases ej : j = m
      · rw [ej]; exact ht
      · exact h4 j (by omega) b⟩

theorem RSt.ins {w0 wr : World} {xb db eb g off : Nat} {so : Option Addr} {np sc : Nat} {fr : Nat → Int} {p : PR} {q : Hd} {d : Nat → Int} {dn : Nat → Bool} (h : RSt w0 wr xb db eb so np sc fr p q d dn) (e : q.co = some ⟨g, off, none⟩) {j : Nat} (hj : j < p.len) :
    wr.cell? ⟨g, off + j * 3, none⟩ = some (.int .i64 (p.op j)) ∧ wr.cell? ⟨g, off + j * 3 + 1, none⟩ = some (.int .i64 (p.a j)) ∧ wr.cell? ⟨g, off + j * 3 + 2, none⟩ = some (.int .i64 (p.b j)) := by
  rcases h.co with e2 | ⟨g', off', e2, hc⟩
  · omega
  · rw [e] at e2
    cases e2
    exact hc j hj
theorem box_set (w : World) (b i : Nat) (u : Value) (c : Array Value) (T : TypeId) (j : Nat) {v : Value} (h : c[j]? = some v) : ((w.setCell ⟨b, i, none⟩ u).alloc (.cells c T)).cell? ⟨w.heap.size, j, none⟩ = some v := by
  have e : (w.setCell ⟨b, i, none⟩ u).heap.size = w.heap.size := by simp [World.setCell]
  rw [← e]
  exact cell_row (heap_alloc_new _ _) h

theorem upd_twice (f : Nat → Int) (t : Nat) (a b : Int) : updI (updI f t a) t b = updI f t b := by
  funext i
  simp only [updI]
  split <;> rfl
/-- What the document's walk comes to. -/
def RWEnd (w' : World) (p : PR) (R : Nat × Nat × (Nat → Int)) (e : Ending) : Prop :=
  ∃ v, e = .returned (.tuple #[v, .int .i64 (R.2.1 : Int), .int .i64 (R.1 : Int)]) ∧ (R.1 = 0 → ∃ db, v = .slice (some ⟨db, 0, none⟩) p.len p.len ∧ DepAt w' db p.len R.2.2)
/-- Is the slot that an instruction names not there? -/
def slotB (k : Nat) (a dd : Int) : Bool := decide (nA k = 2) && !(isIn a 0 ((if k = 19 then dd - 1 else dd) - 1))
theorem wants_fit {k : Nat} {a b : Int} (x1 : 0 ≤ cnt (nA k) a) (x2 : cnt (nA k) a ≤ 4096) (x3 : 0 ≤ cnt (nB k) b) (x4 : cnt (nB k) b ≤ 9223372036854775807) :
    (k = 11 ∨ k = 12 ∨ k = 18 → -9223372036854775807 ≤ a ∧ a ≤ 9223372036854775806) ∧ (k = 10 ∨ k = 16 → -9223372036854775806 ≤ b ∧ b ≤ 9223372036854775807) := by
  constructor
  · rintro (rfl | rfl | rfl) <;> simp [cnt, nA] at x1 x2 <;> omega
  · rintro (rfl | rfl) <;> simp [cnt, nB] at x3 x4 <;> omega
theorem pop_ge {k : Nat} {a b : Int} (x1 : 0 ≤ cnt (nA k) a) (x3 : 0 ≤ cnt (nB k) b) : 0 ≤ popd k a b := by unfold popd; omega
theorem ways_other {k pc : Nat} {a : Int} (h1 : 1 ≤ k) (h2 : k < 22) (n12 : k ≠ 12) (n13 : k ≠ 13) (n14 : k ≠ 14) (n15 : k ≠ 15) : ways k pc a = [(pc : Int) + 1] := by
  rcases ops_21 h1 h2 with rfl | rfl | rfl | rfl | rfl | rfl | rfl | rfl | rfl | rfl | rfl | rfl | rfl | rfl | rfl | rfl | rfl | rfl | rfl | rfl | rfl <;> first | contradiction | simp [ways, nEnd, nA]
theorem slot_iff {k : Nat} {a b dd : Int} (h1 : 1 ≤ k) (h2 : k < 22) : (nA k = 2 ∧ isIn a 0 (dd - popd k a b - 1) = false) ↔ slotB k a dd = true := by
  rcases ops_21 h1 h2 with rfl | rfl | rfl | rfl | rfl | rfl | rfl | rfl | rfl | rfl | rfl | rfl | rfl | rfl | rfl | rfl | rfl | rfl | rfl | rfl | rfl <;> simp [slotB, nA, nB, nPop, popd, cnt]
theorem slot_no {k : Nat} {a dd : Int} (h1 : 1 ≤ k) (h2 : k < 22) (n2 : k ≠ 2) (n21 : k ≠ 21) (n19 : k ≠ 19) : slotB k a dd = false := by
  rcases ops_21 h1 h2 with rfl | rfl | rfl | rfl | rfl | rfl | rfl | rfl | rfl | rfl | rfl | rfl | rfl | rfl | rfl | rfl | rfl | rfl | rfl | rfl | rfl <;> first | contradiction | simp [slotB, nA]
theorem goOn_dep {len k pc : Nat} {a b dd : Int} {d : Nat → Int} {T : Nat → Bool} : goOnM len k pc a (dd - popd k a b + nPush k) d T = goOnM len k pc a (dd + rTurn k a b) d T := by
  by_cases h : k = 12 ∨ k = 13
  · have e : ways k pc a = [] := by rcases h with rfl | rfl <;> simp [ways, nEnd, nA]
    unfold goOnM
    rw [e]
    rfl
  · rw [show rTurn k a b = nPush k - popd k a b from by unfold rTurn; rw [if_neg h]]
    rw [show dd - popd k a b + (nPush k : Int) = dd + (nPush k - popd k a b) from by omega]
/-- What the document's walk does at a place. -/
theorem lookR {np : Nat} {fr : Nat → Int} {p : PR} {pc k : Nat} {d : Nat → Int} {T : Nat → Bool} (hw : wrongM np fr p (p.op pc) (p.a pc) (p.b pc) = 0) (ek : p.op pc = (k : Int)) (h1 : 1 ≤ k) (h2 : k < 22) (ht : d pc ≤ 4096) (hp : 0 ≤ popd k (p.a pc) (p.b pc)) :
    lookM np fr p pc d T = if d pc < popd k (p.a pc) (p.b pc) then (31, d, T) else if slotB k (p.a pc) (d pc) = true then (33, d, T) else if 4096 < d pc + rTurn k (p.a pc) (p.b pc) then (31, d, T) else goOnM p.len k pc (p.a pc) (d pc + rTurn k (p.a pc) (p.b pc)) d T := by
  unfold lookM
  rw [if_neg (by rw [hw]; exact fun h => h rfl)]
  rw [ek, Int.toNat_natCast, goOn_dep]
  have c3 : (d pc - popd k (p.a pc) (p.b pc) + nPush k > 4096) ↔ 4096 < d pc + rTurn k (p.a pc) (p.b pc) := by
    by_cases h : k = 12 ∨ k = 13
    · have e1 : rTurn k (p.a pc) (p.b pc) = 0 := by unfold rTurn; rw [if_pos h]
      have e2 : nPush k = 0 := by rcases h with rfl | rfl <;> rfl
      rw [e1, e2]
      constructor <;> intro hh <;> omega
    · have e1 : rTurn k (p.a pc) (p.b pc) = nPush k - popd k (p.a pc) (p.b pc) := by unfold rTurn; rw [if_neg h]
      rw [e1]
      constructor <;> intro hh <;> omega
  by_cases g1 : d pc < popd k (p.a pc) (p.b pc)
  · rw [if_pos g1, if_pos (by omega)]
  · rw [if_neg g1, if_neg (by omega)]
    by_cases g2 : slotB k (p.a pc) (d pc) = true
    · rw [if_pos g2, if_pos ((slot_iff h1 h2).2 g2)]
    · rw [if_neg g2, if_neg (fun h => g2 ((slot_iff h1 h2).1 h))]
      by_cases g3 : 4096 < d pc + rTurn k (p.a pc) (p.b pc)
      · rw [if_pos g3, if_pos (c3.2 g3)]
      · rw [if_neg g3, if_neg (fun h => g3 (c3.1 h))]
theorem turn_ge {k : Nat} {a b dd : Int} (h : ¬ dd < popd k a b) (h0 : 0 ≤ dd) : 0 ≤ dd + rTurn k a b := by
  unfold rTurn
  split <;> omega
theorem turn_le {k : Nat} {a b : Int} (hp : 0 ≤ popd k a b) (hk : k < 22) : rTurn k a b ≤ 1 := by
  have h1 : (nPush k : Int) ≤ 1 := by
    have : ∀ k, k < 22 → nPush k ≤ 1 := by decide
    have := this k hk
    omega
  unfold rTurn
  split <;> omega

/-- The places that an instruction goes on to, in memory of the walk's own. -/
def NX (w : World) (db : Nat) (ao : Option Addr) (l : List Int) : Prop :=
  l = [] ∨ ∃ g, ao = some ⟨g, 0, none⟩ ∧ g < w.heap.size ∧ g ≠ db ∧ ∀ j x, l[j]? = some x → w.cell? ⟨g, j, none⟩ = some (.int .i64 x)
theorem NX.cell {w : World} {db : Nat} {ao : Option Addr} {l : List Int} (h : NX w db ao l) {i : Nat} {t : Int} (hi : l[i]? = some t) : ∃ g, ao = some ⟨g, 0, none⟩ ∧ g ≠ db ∧ w.cell? ⟨g, i, none⟩ = some (.int .i64 t) := by
  rcases h with e | ⟨g, e, _, hn, hc⟩
  · subst e; simp at hi
  · exact ⟨g, e, hn, hc i t hi⟩
theorem NX.set {w : World} {db : Nat} {ao : Option Addr} {l : List Int} (h : NX w db ao l) (t : Nat) (v : Value) : NX (w.setCell ⟨db, t, none⟩ v) db ao l := by
  rcases h with e | ⟨g, e, hg, hn, hc⟩
  · exact .inl e
  · refine .inr ⟨g, e, by simpa [World.setCell] using hg, hn, fun j x hj => ?_⟩
    exact (World.cell?_of_block (heap_setCell_other _ _ _ _ hn)).trans (hc j x hj)
theorem NX.new {w w' : World} {db : Nat} {ao : Option Addr} {l : List Int} (h : NX w db ao l) (hf : Fr (fun _ => False) w w') : NX w' db ao l := by
  rcases h with e | ⟨g, e, hg, hn, hc⟩
  · exact .inl e
  · exact .inr ⟨g, e, Nat.lt_of_lt_of_le hg hf.size, hn, fun j x hj => (hf.cell hg (fun e => e)).trans (hc j x hj)⟩
theorem NX.one {w : World} {db : Nat} (hdb : db < w.heap.size) (x : Int) (T : TypeId) : NX (w.alloc (.cells #[.int .i64 x] T)) db (some ⟨w.heap.size, 0, none⟩) [x] := by
  refine .inr ⟨_, rfl, by simp, by omega, fun j y hj => ?_⟩
  rcases j with _ | j
  · simp at hj; subst hj; simp
  · simp at hj
theorem NX.two {w : World} {db : Nat} (hdb : db < w.heap.size) (x y : Int) (T : TypeId) : NX (w.alloc (.cells #[.int .i64 x, .int .i64 y] T)) db (some ⟨w.heap.size, 0, none⟩) [x, y] := by
  refine .inr ⟨_, rfl, by simp, by omega, fun j z hj => ?_⟩
  rcases j with _ | _ | j
  · simp at hj; subst hj; simp
  · simp at hj; subst hj; simp
  · simp at hj

end Go.Proofs.Ytmogglmofbbjlaa
