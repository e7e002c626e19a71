/-
  What is proved here: what a proto is, in memory and as bytes; a writer's proto (package pack).
-/
import Derived.Test.YtilcigjhogcjkaaPKDm
namespace Go.Proofs.Ytilcigjhogcjkaa
open Go Go.RowKit

/-- What is in a proto. -/
structure PC (N : Nat) where
  nm : ByteArray
  args : Int
  free : Int
  rest : Bool
  code : List (Int × Int × Int)
  ks : List (Tr N)
  ns : List ByteArray
def insB (x : Int × Int × Int) : List Nat := (numB x.1.toNat ++ numB (sgnN x.2.1)) ++ numB (sgnN x.2.2)
def proB {N : Nat} (p : PC N) : List Nat := txtB p.nm ++ (numB p.args.toNat ++ (flgB p.rest ++ (numB p.free.toNat ++ (numB p.code.length ++ (p.code.flatMap insB ++ (numB p.ks.length ++ (p.ks.flatMap (datB N) ++ (numB p.ns.length ++ p.ns.flatMap txtB))))))))
/-- Instructions, names in memory. -/
def CodeL (w : World) (co : Option Addr) (cc : Nat) (l : List (Int × Int × Int)) : Prop :=
  l.length ≤ cc ∧ cc ≤ 9223372036854775807 ∧ (l.length = 0 ∨ ∃ g off, co = some ⟨g, off, none⟩ ∧ ∀ j (hj : j < l.length), w.cell? ⟨g, off + j * 3, none⟩ = some (.int .i64 l[j].1) ∧ w.cell? ⟨g, off + j * 3 + 1, none⟩ = some (.int .i64 l[j].2.1) ∧ w.cell? ⟨g, off + j * 3 + 2, none⟩ = some (.int .i64 l[j].2.2))
def NameL (w : World) (na : Option Addr) (nc : Nat) (l : List ByteArray) : Prop :=
  l.length ≤ nc ∧ nc ≤ 9223372036854775807 ∧ (l.length = 0 ∨ ∃ g off, na = some ⟨g, off, none⟩ ∧ ∀ j (hj : j < l.length), w.cell? ⟨g, off + j, none⟩ = some (.string l[j]))
theorem CodeL.up {w w' : World} {co : Option Addr} {cc : Nat} {l : List (Int × Int × Int)} (h : CodeL w co cc l) (u : Up w w') : CodeL w' co cc l := by
  obtain ⟨h1, h2, h3⟩ := h
  refine ⟨h1, h2, ?_⟩
  rcases h3 with e | ⟨g, off, e, hc⟩
  · exact .inl e
  · refine .inr ⟨g, off, e, fun j hj => ?_⟩
    have hb := u.block g (World.block_lt_of_cell? w _ (hc j hj).1)
    exact ⟨(World.cell?_of_block hb).trans (hc j hj).1, (World.cell?_of_block hb).trans (hc j hj).2.1, (World.cell?_of_block hb).trans (hc j hj).2.2⟩
theorem NameL.up {w w' : World} {na : Option Addr} {nc : Nat} {l : List ByteArray} (h : NameL w na nc l) (u : Up w w') : NameL w' na nc l := by
  obtain ⟨h1, h2, h3⟩ := h
  refine ⟨h1, h2, ?_⟩
  rcases h3 with e | ⟨g, off, e, hc⟩
  · exact .inl e
  · refine .inr ⟨g, off, e, fun j hj => ?_⟩
    exact (World.cell?_of_block (u.block g (World.block_lt_of_cell? w _ (hc j hj)))).trans (hc j hj)
/-- Seven cells that are a proto. -/
def PCell {N : Nat} (w : World) (p : PC N) (cs : List Value) : Prop :=
  ∃ co cc ka kc na nc, cs = [.string p.nm, .int .i64 p.args, .int .i64 p.free, .bool p.rest, .slice co p.code.length cc, .slice ka p.ks.length kc, .slice na p.ns.length nc] ∧ CodeL w co cc p.code ∧ RowD w (DatC w N) (.slice ka p.ks.length kc) p.ks ∧ NameL w na nc p.ns
theorem PCell.up {N : Nat} {w w' : World} {p : PC N} {cs : List Value} (h : PCell w p cs) (u : Up w w') : PCell w' p cs := by
  obtain ⟨co, cc, ka, kc, na, nc, e, h1, h2, h3⟩ := h
  exact ⟨co, cc, ka, kc, na, nc, e, h1.up u, h2.upD u, h3.up u⟩
/-- May an instruction, a proto be written? -/
def goodI (x : Int × Int × Int) : Bool := isNum x.1 && (half x.2.1 && half x.2.2)
def goodP {N : Nat} (p : PC N) : Bool := isNum p.args && (isNum p.free && (p.code.all goodI && p.ks.all (goodD N 100)))
theorem num_le {v : Int} (h : isNum v = true) : 0 ≤ v ∧ v ≤ 1099511627776 := by
  simpa [isNum] using h
/-- A box of three, of seven cells. -/
def IBx (w : World) (B : Nat) (c0 c1 c2 : Value) : Prop := w.heap[B]? = some (.cells #[c0, c1, c2] 50 (0, 0))
theorem IBx.fw {w w' : World} {B C : Nat} {c0 c1 c2 : Value} (h : IBx w B c0 c1 c2) (hf : FW C w w') : IBx w' B c0 c1 c2 := hf.kt _ _ _ _ h (by decide) (by decide)
theorem IBx.k0 {w : World} {B : Nat} {c0 c1 c2 : Value} (h : IBx w B c0 c1 c2) : w.cell? ⟨B, 0, none⟩ = some c0 := by
  rw [cell_of_row w B 0 _ _ _ h]
  rfl
theorem IBx.k1 {w : World} {B : Nat} {c0 c1 c2 : Value} (h : IBx w B c0 c1 c2) : w.cell? ⟨B, 1, none⟩ = some c1 := by
  rw [cell_of_row w B 1 _ _ _ h]
  rfl
theorem IBx.k2 {w : World} {B : Nat} {c0 c1 c2 : Value} (h : IBx w B c0 c1 c2) : w.cell? ⟨B, 2, none⟩ = some c2 := by
  rw [cell_of_row w B 2 _ _ _ h]
  rfl
def PBx (w : World) (B : Nat) (c0 c1 c2 c3 c4 c5 c6 : Value) : Prop := w.heap[B]? = some (.cells #[c0, c1, c2, c3, c4, c5, c6] 48 (0, 0))
theorem PBx.fw {w w' : World} {B C : Nat} {c0 c1 c2 c3 c4 c5 c6 : Value} (h : PBx w B c0 c1 c2 c3 c4 c5 c6) (hf : FW C w w') : PBx w' B c0 c1 c2 c3 c4 c5 c6 := hf.kt _ _ _ _ h (by decide) (by decide)
theorem PBx.k0 {w : World} {B : Nat} {c0 c1 c2 c3 c4 c5 c6 : Value} (h : PBx w B c0 c1 c2 c3 c4 c5 c6) : w.cell? ⟨B, 0, none⟩ = some c0 := by
  rw [cell_of_row w B 0 _ _ _ h]
  rfl
theorem PBx.k1 {w : World} {B : Nat} {c0 c1 c2 c3 c4 c5 c6 : Value} (h : PBx w B c0 c1 c2 c3 c4 c5 c6) : w.cell? ⟨B, 1, none⟩ = some c1 := by
  rw [cell_of_row w B 1 _ _ _ h]
  rfl
theorem PBx.k2 {w : World} {B : Nat} {c0 c1 c2 c3 c4 c5 c6 : Value} (h : PBx w B c0 c1 c2 c3 c4 c5 c6) : w.cell? ⟨B, 2, none⟩ = some c2 := by
  rw [cell_of_row w B 2 _ _ _ h]
  rfl
theorem PBx.k3 {w : World} {B : Nat} {c0 c1 c2 c3 c4 c5 c6 : Value} (h : PBx w B c0 c1 c2 c3 c4 c5 c6) : w.cell? ⟨B, 3, none⟩ = some c3 := by
  rw [cell_of_row w B 3 _ _ _ h]
  rfl
theorem PBx.k4 {w : World} {B : Nat} {c0 c1 c2 c3 c4 c5 c6 : Value} (h : PBx w B c0 c1 c2 c3 c4 c5 c6) : w.cell? ⟨B, 4, none⟩ = some c4 := by
  rw [cell_of_row w B 4 _ _ _ h]
  rfl
theorem PBx.k5 {w : World} {B : Nat} {c0 c1 c2 c3 c4 c5 c6 : Value} (h : PBx w B c0 c1 c2 c3 c4 c5 c6) : w.cell? ⟨B, 5, none⟩ = some c5 := by
  rw [cell_of_row w B 5 _ _ _ h]
  rfl
theorem PBx.k6 {w : World} {B : Nat} {c0 c1 c2 c3 c4 c5 c6 : Value} (h : PBx w B c0 c1 c2 c3 c4 c5 c6) : w.cell? ⟨B, 6, none⟩ = some c6 := by
  rw [cell_of_row w B 6 _ _ _ h]
  rfl
/-- A number that is an int from 0 on. -/
theorem number_int (B : Nat) (w : World) (wb : Nat) (out : List Nat) (v : Int) (h : WO B w wb out) (h0 : 0 ≤ v) (h1 : v ≤ 1099511627776) (hl : (out ++ numB v.toNat).length ≤ 1000000000) (hB : B ≤ w.heap.size) :
    Calls Try.prog 40 #[.pointer (some ⟨wb, 0, none⟩), .int .i64 v] w fun e w' => WEnd B w wb (out ++ numB v.toNat) e w' := by
  have := number_any B w wb out v.toNat h (by omega) hl hB
  rw [Int.toNat_of_nonneg h0] at this
  exact this

end Go.Proofs.Ytilcigjhogcjkaa
