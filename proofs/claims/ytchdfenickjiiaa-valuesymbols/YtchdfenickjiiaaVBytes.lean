/-
  What is proved here: package value's Bytes of a text: its bytes, in new memory.
-/
import Derived.Test.YtchdfenickjiiaaVTell
import Derived.Deep.AppendLies
namespace Go.Proofs.Ytchdfenickjiiaa
open Go Go.RowKit

theorem infoB : (Try.prog.info? 5).map (fun i => (i.zero, i.size, i.bytes)) = some (some (.int .u8 0), 1, 1) := by kernel_rfl
/-- make([]byte, 0, N): a block of its own. -/
theorem wpList_mkBc {w : World} {ops : Array Oper} {rest : List Oper} {o : Oper} {a : Act} {Q : Exit → Act → World → Prop}
    (hg : o.guard = none) (l c : Operand) (hop : o.op = Op.makeSlice 38 l c)
    (kl kc : IntKind) (L C : Int) (N : Nat) (hl : a.eval l = .int kl L) (hc : a.eval c = .int kc C) (hL : L = 0) (hC : C = (N : Int)) (b2 : N ≤ 281474976710656)
    (hK : ∀ w', RowAt .u8 5 w' w.heap.size N 0 (fun _ => 0) → Fr (fun _ => False) w w' → wpList Try.prog ops Q rest (a.put o.dst (.slice (some ⟨w.heap.size, 0, none⟩) 0 N)) w') :
    wpList Try.prog ops Q (o :: rest) a w := by
  obtain ⟨i, hi, hz0, hz1, hz2⟩ := info_parts infoB
  have hrun := run_make (P := Try.prog) w 38 5 i (.int .u8 0) Try.underlying38 hi hz0 kl kc 0 N (by omega) (by omega) (by rw [hz2]; omega) (by omega)
  simp only [Int.toNat_natCast, hz1, Nat.mul_one] at hrun
  subst hL hC
  refine wpList_plain hg fun K hK' => ?_
  unfold Oper.wp
  simp [execOp, hop, hl, hc, hrun, Result.andThen]
  exact hK' _ _ (hK _ ⟨madeCells (Value.int .u8 0).cells N, heap_alloc_new w _, size_madeCells _ _, Nat.zero_le _, fun i hi => by omega⟩ ((Fr.refl _ _).alloc _))

theorem u8w (y : Nat) : IntKind.u8.wrap (y : Int) = ((y % 256 : Nat) : Int) := by
  have : IntKind.u8.wrap (y : Int) = (y : Int) % 256 := by
    simp [IntKind.wrap, IntKind.signed, IntKind.bits]
  rw [this]
  omega

/-- Byte j of the words behind a text's length. -/
def byteF (g : Nat → Nat) (len : Nat) (j : Nat) : Nat := wordOf g len (j / 8) / 256 ^ (j % 8) % 256
theorem num_digit (g : Nat → Nat) : ∀ (n k : Nat), k < n → (∀ i, i < n → g i < 256) → num 256 g n / 256 ^ k % 256 = g k := by
  intro n
  induction n with
  | zero => intro k hk _; omega
  | succ n ih =>
    intro k hk hg
    rw [num_succ]
    by_cases e : k = n
    · subst e
      have h1 := num_lt (B := 256) (f := g) (n := k) (fun i hi => hg i (by omega))
      rw [Nat.add_mul_div_right _ _ (Nat.pow_pos (by decide)), Nat.div_eq_of_lt h1, Nat.zero_add]
      exact Nat.mod_eq_of_lt (hg k (by omega))
    · have hkn : k < n := by omega
      have e2 : g n * 256 ^ n = (g n * 256 ^ (n - k - 1) * 256) * 256 ^ k := by
        rw [Nat.mul_assoc, Nat.mul_assoc, ← Nat.pow_succ', ← Nat.pow_add]
        congr 2
        omega
      rw [e2, Nat.add_mul_div_right _ _ (Nat.pow_pos (by decide)), Nat.add_mul_mod_self_right]
      exact ih k hkn (fun i hi => hg i (by omega))
theorem byteF_at {g : Nat → Nat} {len j : Nat} (hg : ∀ i, i < len → g i < 256) (hj : j < len) : byteF g len j = g j := by
  unfold byteF wordOf
  rw [num_digit (fun i => g (8 * (j / 8) + i)) (clen len (j / 8)) (j % 8) (by unfold clen; omega) (fun i hi => hg _ (by unfold clen at hi; omega))]
  congr 1
  omega

end Go.Proofs.Ytchdfenickjiiaa
