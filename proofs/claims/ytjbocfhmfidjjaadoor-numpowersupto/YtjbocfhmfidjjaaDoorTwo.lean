/-
  What is proved here: nat.Add and nat.Mul of two numbers, out of the contracts for as many as one likes.
-/
import Derived.Test.YtjbocfhmfidjjaaDoorMul
import Derived.Test.YtjbocfhmfidjjaaDoorSub
namespace Go.Proofs.YtjbocfhmfidjjaaDoor
open Go Go.RowKit

theorem add2 (v u : Value) (n m M : Nat) (f q : Nat → Nat) (w : World) (hv : Sl .u32 w v n f) (hu : Sl .u32 w u m q)
    (hf : ∀ i, i < n → f i < 4294967296) (hh : ∀ i, i < m → q i < 4294967296) (hn : n ≤ M) (hmM : m ≤ M) (hM : 4 * (M + 1) ≤ 281474976710656) :
    Calls Tryd.prog 100 #[v, u, .slice none 0 0] w fun e w' => ∃ v' n' f', e = .returned v' ∧ Own .u32 64 w' w.heap.size v' n' f' ∧ Below w.heap.size w w' ∧ Can 4294967296 f' n' ∧ n' ≤ M + 1 ∧
      num 4294967296 f' n' = num 4294967296 f n + num 4294967296 q m :=
  add_any v u n m 0 0 M f q none (fun _ => .slice none 0 0) (fun _ => 0) (fun _ _ => 0) w hv hu (.inl rfl) (fun i hi => by omega) hf hh (fun j hj => by omega) hn hmM (fun j hj => by omega) hM (by omega)

theorem mul2 (v u : Value) (n m : Nat) (f q : Nat → Nat) (w : World) (hv : Sl .u32 w v n f) (hu : Sl .u32 w u m q)
    (hf : ∀ i, i < n → f i < 4294967296) (hh : ∀ i, i < m → q i < 4294967296) (hM : 4 * (n + m) ≤ 281474976710656) :
    Calls Tryd.prog 79 #[v, u, .slice none 0 0] w fun e w' => ∃ v' n' f', e = .returned v' ∧ Own .u32 64 w' w.heap.size v' n' f' ∧ Below w.heap.size w w' ∧ Can 4294967296 f' n' ∧ n' ≤ n + m ∧
      num 4294967296 f' n' = num 4294967296 f n * num 4294967296 q m := by
  refine (mul_any v u n m 0 0 f q none (fun _ => .slice none 0 0) (fun _ => 0) (fun _ _ => 0) w hv hu (.inl rfl) (fun _ => rfl) (fun i hi => by omega) hf hh (fun j hj => by omega) (by simp [sumN]; omega) (by omega)).mono ?_
  rintro e w' ⟨v', n', f', rfl, h1, h2, h3, h4, h5⟩
  exact ⟨v', n', f', rfl, h1, h2, h3, by simpa [sumN] using h4, by simpa [prodN] using h5⟩

/-- nil is a number that can be read: 0. -/
theorem sl_nil (w : World) (f : Nat → Nat) : Sl .u32 w (.slice none 0 0) 0 f := ⟨none, 0, rfl, Nat.le_refl _, by omega, fun _ => rfl, .inl rfl⟩

/-- A slice literal of numbers, in a block of its own. -/
theorem row_lit (w : World) (E : TypeId) (k : IntKind) (cs : Array Value) (n : Nat) (f : Nat → Nat) (hn : cs.size = n) (hf : ∀ i, i < n → cs[i]? = some (.int k (f i))) : RowAt k E (w.alloc (.cells cs E)) w.heap.size n n f :=
  ⟨cs, heap_alloc_new w _, hn, Nat.le_refl _, hf⟩
theorem RowAt.sl {k : IntKind} {E : TypeId} {w : World} {g N n : Nat} {f : Nat → Nat} (h : RowAt k E w g N n f) (hN : N ≤ 9223372036854775807) : Sl k w (.slice (some ⟨g, 0, none⟩) n N) n f :=
  ⟨_, N, rfl, h.le, hN, (fun e => by cases e), h.rd⟩
theorem below_alloc (w : World) (o : Obj) : Below w.heap.size w (w.alloc o) := (Below.refl _ _).alloc (Nat.le_refl _) o
theorem size_alloc (w : World) (o : Obj) : (w.alloc o).heap.size = w.heap.size + 1 := by simp
theorem lit1 (w : World) (E : TypeId) (a : Nat) : Sl .u32 (w.alloc (.cells #[.int .u32 a] E)) (.slice (some ⟨w.heap.size, 0, none⟩) 1 1) 1 (fun _ => a) :=
  (row_lit w E .u32 #[.int .u32 a] 1 (fun _ => a) rfl (fun i hi => by obtain rfl : i = 0 := (by omega); rfl)).sl (by omega)
theorem lit2 (w : World) (E : TypeId) (a b : Nat) : Sl .u32 (w.alloc (.cells #[.int .u32 a, .int .u32 b] E)) (.slice (some ⟨w.heap.size, 0, none⟩) 2 2) 2 (fun i => if i = 0 then a else b) :=
  (row_lit w E .u32 #[.int .u32 a, .int .u32 b] 2 _ rfl (fun i hi => by
    match i, hi with
    | 0, _ => rfl
    | 1, _ => rfl)).sl (by omega)

end Go.Proofs.YtjbocfhmfidjjaaDoor
