/-
  What is proved here: a half of the heap: which words are pointers to objects, what their headers are, and where their fields lie.
-/
import Derived.Test.YtchdfenickjiiaaHLeaf
namespace Go.Proofs.Ytchdfenickjiiaa
open Go Go.RowKit

/-- Is a word a pointer to one of the places that are marked? -/
def isPtr (st : Nat → Bool) (x : Nat) : Bool := x % 4 == 0 && st (x / 4)

theorem Own.rd {k : IntKind} {E : TypeId} {w : World} {base : Nat} {v : Value} {n : Nat} {f : Nat → Nat} (h : Own k E w base v n f) {i : Nat} (hi : i < n) : ∃ g cap, v = .slice (some ⟨g, 0, none⟩) n cap ∧ n ≤ cap ∧ cap ≤ 9223372036854775807 ∧ w.cell? ⟨g, i, none⟩ = some (.int k (f i)) := by
  rcases h with ⟨rfl, rfl⟩ | ⟨g, cap, rfl, h1, h2, h3⟩
  · omega
  · exact ⟨g, cap, rfl, h3.le, h2, h3.cell hi⟩
theorem Own.shape {k : IntKind} {E : TypeId} {w : World} {base : Nat} {v : Value} {n : Nat} {f : Nat → Nat} (h : Own k E w base v n f) : ∃ ao cap, v = .slice ao n cap := by
  rcases h with ⟨rfl, rfl⟩ | ⟨g, cap, rfl, h1, h2, h3⟩
  · exact ⟨_, _, rfl⟩
  · exact ⟨_, _, rfl⟩

theorem bit_of (a k : Nat) (ha : a < 18446744073709551616) : bits BinOp.and IntKind.u64 ((a : Int) / 2 ^ k) 1 = if a.testBit k then 1 else 0 := by
  have h1 : a / 2 ^ k < 18446744073709551616 := Nat.lt_of_le_of_lt (Nat.div_le_self _ _) ha
  rw [show ((a : Int) / 2 ^ k) = ((a / 2 ^ k : Nat) : Int) by simp, and_1 _ h1, Nat.testBit_eq_decide_div_mod_eq]
  by_cases e : a / 2 ^ k % 2 = 1
  · simp [e]
  · have : a / 2 ^ k % 2 = 0 := by omega
    simp [this]

theorem isPtr_yes {m : Nat} {s : Nat → Nat} {x : Nat} (h : isPtr (marks m s) x = true) : x % 4 = 0 ∧ x / 4 / 64 < m ∧ (s (x / 4 / 64)).testBit (x / 4 % 64) = true := by
  simpa [isPtr, marks] using h
theorem isPtr_no {m : Nat} {s : Nat → Nat} {x : Nat} (h : isPtr (marks m s) x = false) : x % 4 ≠ 0 ∨ (x % 4 = 0 ∧ m ≤ x / 4 / 64) ∨ (x % 4 = 0 ∧ x / 4 / 64 < m ∧ (s (x / 4 / 64)).testBit (x / 4 % 64) = false) := by
  by_cases h4 : x % 4 = 0
  · by_cases hl : x / 4 / 64 < m
    · exact .inr (.inr ⟨h4, hl, by simpa [isPtr, marks, h4, hl] using h⟩)
    · exact .inr (.inl ⟨h4, by omega⟩)
  · exact .inl h4

set_option maxRecDepth 20000 in
theorem hplace_yes (T : TypeId) (w : World) (hb : Nat) (cur : Array Value) (o : Nat) (v u : Value) (n : Nat) (f : Nat → Nat) (m : Nat) (s : Nat → Nat) (x : Nat) (h : HalfAt 22 T w hb cur o v u n f m s) (hm : m ≤ 1048576) (hs : ∀ i, i < m → s i < 18446744073709551616) (hx : x < 18446744073709551616) (hp : isPtr (marks m s) x = true) :
    Calls Try.prog 110 #[.pointer (some ⟨hb, o, none⟩), .int .u64 (x : Int)] w fun e w' => e = .returned (.tuple #[.int .i64 ((x / 4 : Nat) : Int), .bool true]) ∧ w' = w := by
  obtain ⟨h4, hl, ht⟩ := isPtr_yes hp
  have hcu := h.cellu
  have hA := and_2 x hx
  rw [h4] at hA
  have hA0 : bits BinOp.and IntKind.u64 (x : Int) 3 = 0 := hA
  obtain ⟨g, cap, rfl, hc1, hc2, hc⟩ := h.ou.rd hl
  have hsx := hs _ hl
  have hB := bit_of _ (x / 4 % 64) hsx
  rw [if_pos ht] at hB
  clear hA hp ht h hs
  go_enter Try.func110, Try.ntmps110
  go_wp2
  go_ret2
  exact ⟨by simp, rfl⟩

set_option maxRecDepth 20000 in
theorem hplace_no (T : TypeId) (w : World) (hb : Nat) (cur : Array Value) (o : Nat) (v u : Value) (n : Nat) (f : Nat → Nat) (m : Nat) (s : Nat → Nat) (x : Nat) (h : HalfAt 22 T w hb cur o v u n f m s) (hm : m ≤ 1048576) (hs : ∀ i, i < m → s i < 18446744073709551616) (hx : x < 18446744073709551616) (hp : isPtr (marks m s) x = false) :
    Calls Try.prog 110 #[.pointer (some ⟨hb, o, none⟩), .int .u64 (x : Int)] w fun e w' => e = .returned (.tuple #[.int .i64 0, .bool false]) ∧ w' = w := by
  have hcu := h.cellu
  have hA := and_2 x hx
  rcases isPtr_no hp with h4 | ⟨h4, hl⟩ | ⟨h4, hl, ht⟩
  · have hr : (((x % 4 : Nat) : Int) != 0) = true := by rw [bne_iff_ne]; omega
    generalize ((x % 4 : Nat) : Int) = r at hA hr
    clear hp h hs
    go_enter Try.func110, Try.ntmps110
    go_wp2
    go_ret2
    exact ⟨rfl, rfl⟩
  · rw [h4] at hA
    have hA0 : bits BinOp.and IntKind.u64 (x : Int) 3 = 0 := hA
    obtain ⟨ao, cap, rfl⟩ := h.ou.shape
    clear hA hp h hs
    go_enter Try.func110, Try.ntmps110
    go_wp2
    go_ret2
    exact ⟨rfl, rfl⟩
  · rw [h4] at hA
    have hA0 : bits BinOp.and IntKind.u64 (x : Int) 3 = 0 := hA
    obtain ⟨g, cap, rfl, hc1, hc2, hc⟩ := h.ou.rd hl
    have hsx := hs _ hl
    have hB := bit_of _ (x / 4 % 64) hsx
    rw [if_neg (by rw [ht]; decide)] at hB
    clear hA hp ht h hs
    go_enter Try.func110, Try.ntmps110
    go_wp2
    go_ret2
    exact ⟨rfl, rfl⟩

set_option maxRecDepth 20000 in
theorem object_no (T : TypeId) (w : World) (hb : Nat) (cur : Array Value) (o : Nat) (v u : Value) (n : Nat) (f : Nat → Nat) (m : Nat) (s : Nat → Nat) (x : Nat) (h : HalfAt 22 T w hb cur o v u n f m s) (hm : m ≤ 1048576) (hs : ∀ i, i < m → s i < 18446744073709551616) (hx : x < 18446744073709551616) (hp : isPtr (marks m s) x = false) :
    Calls Try.prog 75 #[.pointer (some ⟨hb, o, none⟩), .int .u64 (x : Int)] w fun e w' => e = .returned (.tuple #[.int .i64 0, .int .u64 0]) ∧ w' = w := by
  go_enter Try.func75, Try.ntmps75
  go_wp2_with (go_at_call 110; refine (hplace_no T _ _ cur _ v u n f m s _ h hm hs hx hp).mono ?_; rintro e w' ⟨rfl, rfl⟩)
  go_ret2
  exact ⟨rfl, rfl⟩

set_option maxRecDepth 20000 in
theorem object_yes (T : TypeId) (w : World) (hb : Nat) (cur : Array Value) (o : Nat) (v u : Value) (n : Nat) (f : Nat → Nat) (m : Nat) (s : Nat → Nat) (x p : Nat) (h : HalfAt 22 T w hb cur o v u n f m s) (hm : m ≤ 1048576) (hs : ∀ i, i < m → s i < 18446744073709551616) (hx : x < 18446744073709551616) (hp : isPtr (marks m s) x = true) (hxp : x / 4 = p) (hn : p < n) :
    Calls Try.prog 75 #[.pointer (some ⟨hb, o, none⟩), .int .u64 (x : Int)] w fun e w' => e = .returned (.tuple #[.int .i64 (p : Int), .int .u64 (f p : Int)]) ∧ ∃ q, w' = w.drewN q := by
  have hcv := h.cellv
  obtain ⟨g, cap, rfl, hc1, hc2, hc⟩ := h.ov.rd hn
  have KP := hplace_yes T w hb cur o _ u n f m s x h hm hs hx hp
  rw [hxp] at KP
  clear h
  go_enter Try.func75, Try.ntmps75
  go_wp2_with (go_at_call 110; refine KP.mono ?_; rintro e w' ⟨rfl, rfl⟩)
  go_quiet (fail)
  go_wp2
  go_ret2
  exact ⟨rfl, _, rfl⟩

end Go.Proofs.Ytchdfenickjiiaa
