/-
  What is proved here: what a proto is, in memory and as bytes; a writer's proto (package pack). a writer's proto (package pack): just a proto's bytes. a writer's program (package pack): just a program's bytes. what tandemlaw00.CopyProtos has made when so many protos are copied, with all that is in them; no walk. tandemlaw00.CopyProtos makes protos in new memory, with all that is in them.
-/
import Derived.Test.YtilcigjhogcjkaaPZ3
import Derived.Deep.Slices
namespace Go.Proofs.Ytilcigjhogcjkaa
open Go Go.RowKit

/-- What is in a proto. -/
structure PC (N : Nat) where
  nm : ByteArray
  args : Int
  free : Int
  rest : Bool
  code : List (Int × Int × Int)
  ks : List (Tr N)
  ns : List ByteArray

def insB (x : Int × Int × Int) : List Nat := (numB x.1.toNat ++ numB (sgnN x.2.1)) ++ numB (sgnN x.2.2)

def proB {N : Nat} (p : PC N) : List Nat := txtB p.nm ++ (numB p.args.toNat ++ (flgB p.rest ++ (numB p.free.toNat ++ (numB p.code.length ++ (p.code.flatMap insB ++ (numB p.ks.length ++ (p.ks.flatMap (datB N) ++ (numB p.ns.length ++ p.ns.flatMap txtB))))))))

/-- Instructions, names in memory. -/
def CodeL (w : World) (co : Option Addr) (cc : Nat) (l : List (Int × Int × Int)) : Prop :=
  l.length ≤ cc ∧ cc ≤ 9223372036854775807 ∧ (l.length = 0 ∨ ∃ g off, co = some ⟨g, off, none⟩ ∧ ∀ j (hj : j < l.length), w.cell? ⟨g, off + j * 3, none⟩ = some (.int .i64 l[j].1) ∧ w.cell? ⟨g, off + j * 3 + 1, none⟩ = some (.int .i64 l[j].2.1) ∧ w.cell? ⟨g, off + j * 3 + 2, none⟩ = some (.int .i64 l[j].2.2))

def NameL (w : World) (na : Option Addr) (nc : Nat) (l : List ByteArray) : Prop :=
  l.length ≤ nc ∧ nc ≤ 9223372036854775807 ∧ (l.length = 0 ∨ ∃ g off, na = some ⟨g, off, none⟩ ∧ ∀ j (hj : j < l.length), w.cell? ⟨g, off + j, none⟩ = some (.string l[j]))

theorem CodeL.up {w w' : World} {co : Option Addr} {cc : Nat} {l : List (Int × Int × Int)} (h : CodeL w co cc l) (u : Up w w') : CodeL w' co cc l := by
  obtain ⟨h1, h2, h3⟩ := h
  refine ⟨h1, h2, ?_⟩
  rcases h3 with e | ⟨g, off, e, hc⟩
  · exact .inl e
  · refine .inr ⟨g, off, e, fun j hj => ?_⟩
    have hb := u.block g (World.block_lt_of_cell? w _ (hc j hj).1)
    exact ⟨(World.cell?_of_block hb).trans (hc j hj).1, (World.cell?_of_block hb).trans (hc j hj).2.1, (World.cell?_of_block hb).trans (hc j hj).2.2⟩

theorem NameL.up {w w' : World} {na : Option Addr} {nc : Nat} {l : List ByteArray} (h : NameL w na nc l) (u : Up w w') : NameL w' na nc l := by
  obtain ⟨h1, h2, h3⟩ := h
  refine ⟨h1, h2, ?_⟩
  rcases h3 with e | ⟨g, off, e, hc⟩
  · exact .inl e
  · refine .inr ⟨g, off, e, fun j hj => ?_⟩
    exact (World.cell?_of_block (u.block g (World.block_lt_of_cell? w _ (hc j hj)))).trans (hc j hj)

/-- Seven cells that are a proto. -/
def PCell {N : Nat} (w : World) (p : PC N) (cs : List Value) : Prop :=
  ∃ co cc ka kc na nc, cs = [.string p.nm, .int .i64 p.args, .int .i64 p.free, .bool p.rest, .slice co p.code.length cc, .slice ka p.ks.length kc, .slice na p.ns.length nc] ∧ CodeL w co cc p.code ∧ RowD w (DatC w N) (.slice ka p.ks.length kc) p.ks ∧ NameL w na nc p.ns

theorem PCell.up {N : Nat} {w w' : World} {p : PC N} {cs : List Value} (h : PCell w p cs) (u : Up w w') : PCell w' p cs := by
  obtain ⟨co, cc, ka, kc, na, nc, e, h1, h2, h3⟩ := h
  exact ⟨co, cc, ka, kc, na, nc, e, h1.up u, h2.upD u, h3.up u⟩

/-- May an instruction, a proto be written? -/
def goodI (x : Int × Int × Int) : Bool := isNum x.1 && (half x.2.1 && half x.2.2)

def goodP {N : Nat} (p : PC N) : Bool := isNum p.args && (isNum p.free && (p.code.all goodI && p.ks.all (goodD N 100)))

theorem num_le {v : Int} (h : isNum v = true) : 0 ≤ v ∧ v ≤ 1099511627776 := by
  simpa [isNum] using h

/-- A box of three, of seven cells. -/
def IBx (w : World) (B : Nat) (c0 c1 c2 : Value) : Prop := w.heap[B]? = some (.cells #[c0, c1, c2] 50 (0, 0))

theorem IBx.fw {w w' : World} {B C : Nat} {c0 c1 c2 : Value} (h : IBx w B c0 c1 c2) (hf : FW C w w') : IBx w' B c0 c1 c2 := hf.kt _ _ _ _ h (by decide) (by decide)

theorem IBx.k0 {w : World} {B : Nat} {c0 c1 c2 : Value} (h : IBx w B c0 c1 c2) : w.cell? ⟨B, 0, none⟩ = some c0 := by
  rw [cell_of_row w B 0 _ _ _ h]
  rfl

theorem IBx.k1 {w : World} {B : Nat} {c0 c1 c2 : Value} (h : IBx w B c0 c1 c2) : w.cell? ⟨B, 1, none⟩ = some c1 := by
  rw [cell_of_row w B 1 _ _ _ h]
  rfl

theorem IBx.k2 {w : World} {B : Nat} {c0 c1 c2 : Value} (h : IBx w B c0 c1 c2) : w.cell? ⟨B, 2, none⟩ = some c2 := by
  rw [cell_of_row w B 2 _ _ _ h]
  rfl

def PBx (w : World) (B : Nat) (c0 c1 c2 c3 c4 c5 c6 : Value) : Prop := w.heap[B]? = some (.cells #[c0, c1, c2, c3, c4, c5, c6] 48 (0, 0))

theorem PBx.fw {w w' : World} {B C : Nat} {c0 c1 c2 c3 c4 c5 c6 : Value} (h : PBx w B c0 c1 c2 c3 c4 c5 c6) (hf : FW C w w') : PBx w' B c0 c1 c2 c3 c4 c5 c6 := hf.kt _ _ _ _ h (by decide) (by decide)

theorem PBx.k0 {w : World} {B : Nat} {c0 c1 c2 c3 c4 c5 c6 : Value} (h : PBx w B c0 c1 c2 c3 c4 c5 c6) : w.cell? ⟨B, 0, none⟩ = some c0 := by
  rw [cell_of_row w B 0 _ _ _ h]
  rfl

theorem PBx.k1 {w : World} {B : Nat} {c0 c1 c2 c3 c4 c5 c6 : Value} (h : PBx w B c0 c1 c2 c3 c4 c5 c6) : w.cell? ⟨B, 1, none⟩ = some c1 := by
  rw [cell_of_row w B 1 _ _ _ h]
  rfl

theorem PBx.k2 {w : World} {B : Nat} {c0 c1 c2 c3 c4 c5 c6 : Value} (h : PBx w B c0 c1 c2 c3 c4 c5 c6) : w.cell? ⟨B, 2, none⟩ = some c2 := by
  rw [cell_of_row w B 2 _ _ _ h]
  rfl

theorem PBx.k3 {w : World} {B : Nat} {c0 c1 c2 c3 c4 c5 c6 : Value} (h : PBx w B c0 c1 c2 c3 c4 c5 c6) : w.cell? ⟨B, 3, none⟩ = some c3 := by
  rw [cell_of_row w B 3 _ _ _ h]
  rfl

theorem PBx.k4 {w : World} {B : Nat} {c0 c1 c2 c3 c4 c5 c6 : Value} (h : PBx w B c0 c1 c2 c3 c4 c5 c6) : w.cell? ⟨B, 4, none⟩ = some c4 := by
  rw [cell_of_row w B 4 _ _ _ h]
  rfl

theorem PBx.k5 {w : World} {B : Nat} {c0 c1 c2 c3 c4 c5 c6 : Value} (h : PBx w B c0 c1 c2 c3 c4 c5 c6) : w.cell? ⟨B, 5, none⟩ = some c5 := by
  rw [cell_of_row w B 5 _ _ _ h]
  rfl

theorem PBx.k6 {w : World} {B : Nat} {c0 c1 c2 c3 c4 c5 c6 : Value} (h : PBx w B c0 c1 c2 c3 c4 c5 c6) : w.cell? ⟨B, 6, none⟩ = some c6 := by
  rw [cell_of_row w B 6 _ _ _ h]
  rfl

/-- A number that is an int from 0 on. -/
theorem number_int (B : Nat) (w : World) (wb : Nat) (out : List Nat) (v : Int) (h : WO B w wb out) (h0 : 0 ≤ v) (h1 : v ≤ 1099511627776) (hl : (out ++ numB v.toNat).length ≤ 1000000000) (hB : B ≤ w.heap.size) :
    Calls Try.prog 40 #[.pointer (some ⟨wb, 0, none⟩), .int .i64 v] w fun e w' => WEnd B w wb (out ++ numB v.toNat) e w' := by
  have := number_any B w wb out v.toNat h (by omega) hl hB
  rw [Int.toNat_of_nonneg h0] at this
  exact this

set_option maxRecDepth 100000 in
set_option maxHeartbeats 4000000 in
theorem wproto_any {N : Nat} (w0 w : World) (wb : Nat) (out : List Nat) (p : PC N) (c0 c1 c2 c3 c4 c5 c6 : Value) (hp : PCell w0 p [c0, c1, c2, c3, c4, c5, c6]) (hU : Up w0 w) (hW : WO w0.heap.size w wb out) (hg : goodP p = true) (hl : (out ++ proB p).length ≤ 1000000000) :
    Calls Try.prog 41 #[.pointer (some ⟨wb, 0, none⟩), .agg #[c0, c1, c2, c3, c4, c5, c6]] w fun e w' => WEnd w0.heap.size w wb (out ++ proB p) e w' := by
  obtain ⟨co, cc, ka, kc, na, nc, e, hco, hks, hns⟩ := hp
  cases e
  simp only [goodP, Bool.and_eq_true] at hg
  obtain ⟨hg1, hg2, hg3, hg4⟩ := hg
  have hA := num_le hg1
  have hFr := num_le hg2
  have hc1 := hco.1
  have hc2 := hco.2.1
  have hn1 := hns.1
  have hn2 := hns.2.1
  obtain ⟨T, hT⟩ : ∃ T, T = out ++ proB p := ⟨_, rfl⟩
  rw [← hT] at hl ⊢
  obtain ⟨q1, hq1⟩ : ∃ q, q = out ++ txtB p.nm := ⟨_, rfl⟩
  obtain ⟨q2, hq2⟩ : ∃ q, q = q1 ++ numB p.args.toNat := ⟨_, rfl⟩
  obtain ⟨q3, hq3⟩ : ∃ q, q = q2 ++ flgB p.rest := ⟨_, rfl⟩
  obtain ⟨q4, hq4⟩ : ∃ q, q = q3 ++ numB p.free.toNat := ⟨_, rfl⟩
  obtain ⟨q5, hq5⟩ : ∃ q, q = q4 ++ numB p.code.length := ⟨_, rfl⟩
  obtain ⟨q6, hq6⟩ : ∃ q, q = q5 ++ p.code.flatMap insB := ⟨_, rfl⟩
  obtain ⟨q7, hq7⟩ : ∃ q, q = (q6 ++ numB p.ks.length) ++ p.ks.flatMap (datB N) := ⟨_, rfl⟩
  obtain ⟨q8, hq8⟩ : ∃ q, q = q7 ++ numB p.ns.length := ⟨_, rfl⟩
  have hT2 : T = q8 ++ p.ns.flatMap txtB := by
    rw [hT, hq8, hq7, hq6, hq5, hq4, hq3, hq2, hq1]
    simp [proB, List.append_assoc]
  have l8 : q8.length + (p.ns.flatMap txtB).length ≤ 1000000000 := by rw [hT2, List.length_append] at hl; exact hl
  have l7 : (q7 ++ numB p.ns.length).length ≤ 1000000000 := by rw [← hq8]; omega
  have l7' : q7.length ≤ 1000000000 := by rw [List.length_append] at l7; omega
  have l6 : q6.length ≤ 1000000000 := by rw [hq7] at l7'; simp only [List.length_append] at l7'; omega
  have l5 : q5.length + (p.code.flatMap insB).length ≤ 1000000000 := by rw [hq6, List.length_append] at l6; exact l6
  have l4 : (q4 ++ numB p.code.length).length ≤ 1000000000 := by rw [← hq5]; omega
  have l3 : (q3 ++ numB p.free.toNat).length ≤ 1000000000 := by rw [← hq4]; rw [List.length_append] at l4; omega
  have l2 : (q2 ++ flgB p.rest).length ≤ 1000000000 := by rw [← hq3]; rw [List.length_append] at l3; omega
  have l1 : (q1 ++ numB p.args.toNat).length ≤ 1000000000 := by rw [← hq2]; rw [List.length_append] at l2; omega
  have l0 : (out ++ txtB p.nm).length ≤ 1000000000 := by rw [← hq1]; rw [List.length_append] at l1; omega
  have HK1 := hide (fun (W : World) (hw : WO w0.heap.size W wb out) (hu : Up w0 W) => show Calls Try.prog 54 #[.pointer (some ⟨wb, 0, none⟩), .string p.nm] W fun e w' => WEnd w0.heap.size W wb q1 e w' by rw [hq1]; exact text_any w0.heap.size W wb out p.nm hw l0 hu.size)
  have HK2 := hide (fun (W : World) (hw : WO w0.heap.size W wb q1) (hu : Up w0 W) => show Calls Try.prog 40 #[.pointer (some ⟨wb, 0, none⟩), .int .i64 p.args] W fun e w' => WEnd w0.heap.size W wb q2 e w' by rw [hq2]; exact number_int w0.heap.size W wb q1 p.args hw hA.1 hA.2 l1 hu.size)
  have HK3 := hide (fun (W : World) (hw : WO w0.heap.size W wb q2) (hu : Up w0 W) => show Calls Try.prog 55 #[.pointer (some ⟨wb, 0, none⟩), .bool p.rest] W fun e w' => WEnd w0.heap.size W wb q3 e w' by rw [hq3]; exact flag_any w0.heap.size W wb q2 p.rest hw l2 hu.size)
  have HK4 := hide (fun (W : World) (hw : WO w0.heap.size W wb q3) (hu : Up w0 W) => show Calls Try.prog 40 #[.pointer (some ⟨wb, 0, none⟩), .int .i64 p.free] W fun e w' => WEnd w0.heap.size W wb q4 e w' by rw [hq4]; exact number_int w0.heap.size W wb q3 p.free hw hFr.1 hFr.2 l3 hu.size)
  have HK5 := hide (fun (W : World) (hw : WO w0.heap.size W wb q4) (hu : Up w0 W) => show Calls Try.prog 40 #[.pointer (some ⟨wb, 0, none⟩), .int .i64 (p.code.length : Int)] W fun e w' => WEnd w0.heap.size W wb q5 e w' by rw [hq5]; exact number_any w0.heap.size W wb q4 p.code.length hw (by omega) l4 hu.size)
  have HKI := hide (fun (i : Nat) (hi : i < p.code.length) => show (q5 ++ ((p.code.take i).flatMap insB ++ numB p.code[i].1.toNat)).length ≤ 1000000000 ∧ (q5 ++ ((p.code.take i).flatMap insB ++ (numB p.code[i].1.toNat ++ numB (sgnN p.code[i].2.1)))).length ≤ 1000000000 ∧ (q5 ++ ((p.code.take i).flatMap insB ++ insB p.code[i])).length ≤ 1000000000 by
    have h2 := flat_take_le insB p.code (i + 1)
    rw [flat_take_succ insB p.code i hi] at h2
    simp only [insB, List.length_append] at h2 ⊢
    omega)
  have HK7 := hide (fun (W : World) (hw : WO w0.heap.size W wb q6) (hu : Up w0 W) => show Calls Try.prog 57 #[.pointer (some ⟨wb, 0, none⟩), .slice ka p.ks.length kc] W fun e w' => WEnd w0.heap.size W wb q7 e w' from wdata_of (wdatum_all N) w0 W wb q6 p.ks (.slice ka p.ks.length kc) 100 hks hu hw hg4 q7 hq7 l7')
  have HK8 := hide (fun (W : World) (hw : WO w0.heap.size W wb q7) (hu : Up w0 W) => show Calls Try.prog 40 #[.pointer (some ⟨wb, 0, none⟩), .int .i64 (p.ns.length : Int)] W fun e w' => WEnd w0.heap.size W wb q8 e w' by rw [hq8]; exact number_any w0.heap.size W wb q7 p.ns.length hw (by omega) l7 hu.size)
  have HKN := hide (fun (W : World) (i : Nat) (hi : i < p.ns.length) (hw : WO w0.heap.size W wb (q8 ++ (p.ns.take i).flatMap txtB)) (hu : Up w0 W) => show Calls Try.prog 54 #[.pointer (some ⟨wb, 0, none⟩), .string p.ns[i]] W fun e w' => WEnd w0.heap.size W wb (q8 ++ (p.ns.take (i + 1)).flatMap txtB) e w' by
    have h2 := flat_take_le txtB p.ns (i + 1)
    rw [flat_take_succ txtB p.ns i hi] at h2
    have := text_any w0.heap.size W wb (q8 ++ (p.ns.take i).flatMap txtB) p.ns[i] hw (by simp only [List.length_append] at h2 ⊢; omega) hu.size
    rw [List.append_assoc, ← flat_take_succ txtB p.ns i hi] at this
    exact this)
  have HGI : Hid (∀ i (hi : i < p.code.length), goodI p.code[i] = true) := fun i hi => List.all_eq_true.1 hg3 _ (List.getElem_mem hi)
  have HT2 := hide hT2
  have HQ6 := hide hq6
  have HU := hide hU
  have HCO := hide hco
  have HNS := hide hns
  have HB0 : Hid (PBx (w.alloc (.cells #[.string p.nm, .int .i64 p.args, .int .i64 p.free, .bool p.rest, .slice co p.code.length cc, .slice ka p.ks.length kc, .slice na p.ns.length nc] 48)) w.heap.size (.string p.nm) (.int .i64 p.args) (.int .i64 p.free) (.bool p.rest) (.slice co p.code.length cc) (.slice ka p.ks.length kc) (.slice na p.ns.length nc)) := hide (heap_alloc_new w _)
  have HW0 : Hid (WO w0.heap.size (w.alloc (.cells #[.string p.nm, .int .i64 p.args, .int .i64 p.free, .bool p.rest, .slice co p.code.length cc, .slice ka p.ks.length kc, .slice na p.ns.length nc] 48)) wb out) := hide (hW.keep ((Fr.refl _ _).alloc _))
  have HF0 : Hid (FW w0.heap.size w (w.alloc (.cells #[.string p.nm, .int .i64 p.args, .int .i64 p.free, .bool p.rest, .slice co p.code.length cc, .slice ka p.ks.length kc, .slice na p.ns.length nc] 48))) := hide (FW.of ((Fr.refl _ _).alloc _))
  clear hW hU hl hg1 hg2 hg3 hg4 hA hFr hT hT2 hq1 hq2 hq3 hq4 hq5 hq6 hq7 hq8 l0 l1 l2 l3 l4 l5 l6 l7 l7' l8 hks hco hns
  go_enter Try.func41, Try.ntmps41
  go_wp2_with (first
    | (go_at_call 54; refine (HK1.out _ HW0.out (HF0.out.up HU.out)).mono ?_; rintro e1 x1 ⟨rfl, hw1, F1⟩; have b1 := HB0.out.fw F1; have u10 := b1.k0; have u11 := b1.k1; have u12 := b1.k2; have u13 := b1.k3; have u14 := b1.k4; have u15 := b1.k5; have u16 := b1.k6; have HW1 := hide hw1; have HF1 := hide (HF0.out.trans F1); have HB1 := hide b1; clear hw1 F1 b1)
    | (go_at_call_of 40 (Value.int IntKind.i64 p.args); refine (HK2.out _ HW1.out (HF1.out.up HU.out)).mono ?_; rintro e2 x2 ⟨rfl, hw2, F2⟩; have b2 := HB1.out.fw F2; have u20 := b2.k0; have u21 := b2.k1; have u22 := b2.k2; have u23 := b2.k3; have u24 := b2.k4; have u25 := b2.k5; have u26 := b2.k6; have HW2 := hide hw2; have HF2 := hide (HF1.out.trans F2); have HB2 := hide b2; clear hw2 F2 b2)
    | (go_at_call 55; refine (HK3.out _ HW2.out (HF2.out.up HU.out)).mono ?_; rintro e3 x3 ⟨rfl, hw3, F3⟩; have b3 := HB2.out.fw F3; have u30 := b3.k0; have u31 := b3.k1; have u32 := b3.k2; have u33 := b3.k3; have u34 := b3.k4; have u35 := b3.k5; have u36 := b3.k6; have HW3 := hide hw3; have HF3 := hide (HF2.out.trans F3); have HB3 := hide b3; clear hw3 F3 b3)
    | (go_at_call_of 40 (Value.int IntKind.i64 p.free); refine (HK4.out _ HW3.out (HF3.out.up HU.out)).mono ?_; rintro e4 x4 ⟨rfl, hw4, F4⟩; have b4 := HB3.out.fw F4; have u40 := b4.k0; have u41 := b4.k1; have u42 := b4.k2; have u43 := b4.k3; have u44 := b4.k4; have u45 := b4.k5; have u46 := b4.k6; have HW4 := hide hw4; have HF4 := hide (HF3.out.trans F4); have HB4 := hide b4; clear hw4 F4 b4)
    | (go_at_call_of 40 (Value.int IntKind.i64 (p.code.length : Int)); refine (HK5.out _ HW4.out (HF4.out.up HU.out)).mono ?_; rintro e5 x5 ⟨rfl, hw5, F5⟩; have b5 := HB4.out.fw F5; have u50 := b5.k0; have u51 := b5.k1; have u52 := b5.k2; have u53 := b5.k3; have u54 := b5.k4; have u55 := b5.k5; have u56 := b5.k6; have HW5 := hide hw5; have HF5 := hide (HF4.out.trans F5); have HB5 := hide b5; clear hw5 F5 b5))
  clear HW0 HF0 HB0 HW1 HF1 HB1 HW2 HF2 HB2 HW3 HF3 HB3 HW4 HF4 HB4 HK1 HK2 HK3 HK4 HK5 u10 u11 u12 u13 u14 u15 u16 u20 u21 u22 u23 u24 u25 u26 u30 u31 u32 u33 u34 u35 u36 u40 u41 u42 u43 u44 u45 u46 u50 u51 u52 u53 u54 u55 u56
  go_loopw [32] (fun u wr => ∃ i : Nat, u = .int .i64 (i : Int) ∧ i ≤ p.code.length ∧ WO w0.heap.size wr wb (q5 ++ (p.code.take i).flatMap insB) ∧ FW w0.heap.size w wr ∧ PBx wr w.heap.size (.string p.nm) (.int .i64 p.args) (.int .i64 p.free) (.bool p.rest) (.slice co p.code.length cc) (.slice ka p.ks.length kc) (.slice na p.ns.length nc)) (fun u _ => p.code.length - (intOf u).toNat)
  case atStart => exact ⟨0, rfl, Nat.zero_le _, by simpa using HW5.out, HF5.out, HB5.out⟩
  case round =>
    clear HW5 HF5 HB5
    obtain ⟨i, rfl, hi, hW, hF, hB⟩ := hrel
    by_cases hil : i < p.code.length
    · have hG := HGI.out i hil
      have hLb := HKI.out i hil
      have hfs := flat_take_succ insB p.code i hil
      obtain ⟨g, off, ea, d0, d1, d2⟩ : ∃ g off, co = some ⟨g, off, none⟩ ∧ wr.cell? ⟨g, off + i * 3, none⟩ = some (.int .i64 p.code[i].1) ∧ wr.cell? ⟨g, off + i * 3 + 1, none⟩ = some (.int .i64 p.code[i].2.1) ∧ wr.cell? ⟨g, off + i * 3 + 2, none⟩ = some (.int .i64 p.code[i].2.2) := by
        rcases (HCO.out.up (hF.up HU.out)).2.2 with e | ⟨g, off, ea, hc⟩
        · omega
        · exact ⟨g, off, ea, hc i hil⟩
      subst ea
      generalize p.code[i] = x at *
      simp only [goodI, Bool.and_eq_true] at hG
      have hx0 := num_le hG.1
      have hx1 := half_le hG.2.1
      have hx2 := half_le hG.2.2
      obtain ⟨r0, hr0⟩ : ∃ r, r = q5 ++ (p.code.take i).flatMap insB := ⟨_, rfl⟩
      rw [← hr0] at hW
      obtain ⟨r1, hr1⟩ : ∃ r, r = r0 ++ numB x.1.toNat := ⟨_, rfl⟩
      obtain ⟨r2, hr2⟩ : ∃ r, r = r1 ++ numB (sgnN x.2.1) := ⟨_, rfl⟩
      obtain ⟨r3, hr3⟩ : ∃ r, r = r2 ++ numB (sgnN x.2.2) := ⟨_, rfl⟩
      have t1 : (r0 ++ numB x.1.toNat).length ≤ 1000000000 := by rw [hr0, List.append_assoc]; exact hLb.1
      have t2 : (r1 ++ numB (sgnN x.2.1)).length ≤ 1000000000 := by rw [hr1, hr0, List.append_assoc, List.append_assoc]; exact hLb.2.1
      have t3 : (r2 ++ numB (sgnN x.2.2)).length ≤ 1000000000 := by rw [hr2, hr1, hr0]; have := hLb.2.2; simp only [insB, List.append_assoc] at this ⊢; exact this
      have HR3 : Hid (q5 ++ (p.code.take (i + 1)).flatMap insB = r3) := by unfold Hid; rw [hr3, hr2, hr1, hr0, hfs]; simp [insB, List.append_assoc]
      have HJ1 := hide (fun (W : World) (hw : WO w0.heap.size W wb r0) (hu : Up w0 W) => show Calls Try.prog 40 #[.pointer (some ⟨wb, 0, none⟩), .int .i64 x.1] W fun e w' => WEnd w0.heap.size W wb r1 e w' by rw [hr1]; exact number_int w0.heap.size W wb r0 x.1 hw hx0.1 hx0.2 t1 hu.size)
      have HJ2 := hide (fun (W : World) (hw : WO w0.heap.size W wb r1) (hu : Up w0 W) => show Calls Try.prog 56 #[.pointer (some ⟨wb, 0, none⟩), .int .i64 x.2.1] W fun e w' => WEnd w0.heap.size W wb r2 e w' by rw [hr2]; exact signed_any w0.heap.size W wb r1 x.2.1 hw hx1.1 hx1.2 t2 hu.size)
      have HJ3 := hide (fun (W : World) (hw : WO w0.heap.size W wb r2) (hu : Up w0 W) => show Calls Try.prog 56 #[.pointer (some ⟨wb, 0, none⟩), .int .i64 x.2.2] W fun e w' => WEnd w0.heap.size W wb r3 e w' by rw [hr3]; exact signed_any w0.heap.size W wb r2 x.2.2 hw hx2.1 hx2.2 t3 hu.size)
      have HV0 : Hid (IBx (wr.alloc (.cells #[.int .i64 x.1, .int .i64 x.2.1, .int .i64 x.2.2] 50)) wr.heap.size (.int .i64 x.1) (.int .i64 x.2.1) (.int .i64 x.2.2)) := hide (heap_alloc_new wr _)
      have HX0 : Hid (WO w0.heap.size (wr.alloc (.cells #[.int .i64 x.1, .int .i64 x.2.1, .int .i64 x.2.2] 50)) wb r0) := hide (hW.keep ((Fr.refl _ _).alloc _))
      have HY0 : Hid (FW w0.heap.size wr (wr.alloc (.cells #[.int .i64 x.1, .int .i64 x.2.1, .int .i64 x.2.2] 50))) := hide (FW.of ((Fr.refl _ _).alloc _))
      have HF := hide hF
      have HB := hide hB
      clear hW hF hB hG hLb hfs hx0 hx1 hx2 hr0 hr1 hr2 hr3 t1 t2 t3
      go_wp2_with (first
        | (go_at_call_of 40 (Value.int IntKind.i64 x.1); refine (HJ1.out _ HX0.out (HY0.out.up (HF.out.up HU.out))).mono ?_; rintro e1 x1 ⟨rfl, hw1, F1⟩; have b1 := HV0.out.fw F1; have t10 := b1.k0; have t11 := b1.k1; have t12 := b1.k2; have HX1 := hide hw1; have HY1 := hide (HY0.out.trans F1); have HV1 := hide b1; clear hw1 F1 b1)
        | (go_at_call_of 56 (Value.int IntKind.i64 x.2.1); refine (HJ2.out _ HX1.out (HY1.out.up (HF.out.up HU.out))).mono ?_; rintro e2 x2 ⟨rfl, hw2, F2⟩; have b2 := HV1.out.fw F2; have t20 := b2.k0; have t21 := b2.k1; have t22 := b2.k2; have HX2 := hide hw2; have HY2 := hide (HY1.out.trans F2); have HV2 := hide b2; clear hw2 F2 b2)
        | (go_at_call_of 56 (Value.int IntKind.i64 x.2.2); refine (HJ3.out _ HX2.out (HY2.out.up (HF.out.up HU.out))).mono ?_; rintro e3 x3 ⟨rfl, hw3, F3⟩; have b3 := HV2.out.fw F3; have t30 := b3.k0; have t31 := b3.k1; have t32 := b3.k2; have HX3 := hide hw3; have HY3 := hide (HY2.out.trans F3); have HV3 := hide b3; clear hw3 F3 b3))
      exact ⟨⟨i + 1, by go_num, hil, by rw [HR3.out]; exact HX3.out, HF.out.trans HY3.out, HB.out.fw HY3.out⟩, by simp [intOf]; omega⟩
    · have e : i = p.code.length := by omega
      subst e
      rw [List.take_length, ← HQ6.out] at hW
      have HW6 := hide hW
      have HF6 := hide hF
      have HB6 := hide hB
      have hil' : ¬ ((p.code.length : Int) < (p.code.length : Int)) := by omega
      have v0 := hB.k0
      have v4 := hB.k4
      have v5 := hB.k5
      have v6 := hB.k6
      clear hW hF hB hil hi
      go_wp2_with (first
        | (go_at_call 57; refine (HK7.out _ HW6.out (HF6.out.up HU.out)).mono ?_; rintro e7 x7 ⟨rfl, hw7, F7⟩; have b7 := HB6.out.fw F7; have u70 := b7.k0; have u71 := b7.k1; have u72 := b7.k2; have u73 := b7.k3; have u74 := b7.k4; have u75 := b7.k5; have u76 := b7.k6; have HW7 := hide hw7; have HF7 := hide (HF6.out.trans F7); have HB7 := hide b7; clear hw7 F7 b7)
        | (go_at_call_of 40 (Value.int IntKind.i64 (p.ns.length : Int)); refine (HK8.out _ HW7.out (HF7.out.up HU.out)).mono ?_; rintro e8 x8 ⟨rfl, hw8, F8⟩; have b8 := HB7.out.fw F8; have u80 := b8.k0; have u81 := b8.k1; have u82 := b8.k2; have u83 := b8.k3; have u84 := b8.k4; have u85 := b8.k5; have u86 := b8.k6; have HW8 := hide hw8; have HF8 := hide (HF7.out.trans F8); have HB8 := hide b8; clear hw8 F8 b8))
      clear HW6 HF6 HB6 HW7 HF7 HB7 HK7 HK8
      go_loopw [61] (fun u wr => ∃ i : Nat, u = .int .i64 (i : Int) ∧ i ≤ p.ns.length ∧ WO w0.heap.size wr wb (q8 ++ (p.ns.take i).flatMap txtB) ∧ FW w0.heap.size w wr) (fun u _ => p.ns.length - (intOf u).toNat)
      case atStart => exact ⟨0, rfl, Nat.zero_le _, by simpa using HW8.out, HF8.out⟩
      case round =>
        clear HW8 HF8 HB8
        obtain ⟨i, rfl, hi, hW, hF⟩ := hrel
        by_cases hil : i < p.ns.length
        · obtain ⟨g, off, ea, d0⟩ : ∃ g off, na = some ⟨g, off, none⟩ ∧ wr.cell? ⟨g, off + i, none⟩ = some (.string p.ns[i]) := by
            rcases (HNS.out.up (hF.up HU.out)).2.2 with e | ⟨g, off, ea, hc⟩
            · omega
            · exact ⟨g, off, ea, hc i hil⟩
          subst ea
          have HK := hide (HKN.out wr i hil hW (hF.up HU.out))
          have HF := hide hF
          clear hW hF
          generalize p.ns[i] = sx at *
          go_wp2_with (go_at_call 54; refine HK.out.mono ?_; rintro e9 w9 ⟨rfl, hw9, F9⟩)
          exact ⟨⟨i + 1, by go_num, hil, hw9, HF.out.trans F9⟩, by simp [intOf]; omega⟩
        · have e : i = p.ns.length := by omega
          subst e
          rw [List.take_length] at hW
          have HW := hide hW
          have HF := hide hF
          have hil' : ¬ ((p.ns.length : Int) < (p.ns.length : Int)) := by omega
          clear hW hF hil
          go_wp2
          exact bodyPost_end (results_none rfl _ _ _) rfl ⟨rfl, by rw [HT2.out]; exact HW.out, HF.out⟩

def pgB {N : Nat} (ps : List (PC N)) : List Nat := ([84, 65, 78, 68] ++ numB ps.length) ++ ps.flatMap proB

/-- The seven cells of a proto of a row that lay there. -/
theorem proto_cells {N : Nat} {w0 W : World} {ps : List (PC N)} {ao : Option Addr} {n cap : Nat} (hr : RowD w0 (PCell w0) (.slice ao n cap) ps) (u : Up w0 W) {i : Nat} (hi : i < ps.length) :
    ∃ b off, ao = some ⟨b, off, none⟩ ∧ ∃ co cc ka kc na nc, PCell w0 ps[i] [.string ps[i].nm, .int .i64 ps[i].args, .int .i64 ps[i].free, .bool ps[i].rest, .slice co ps[i].code.length cc, .slice ka ps[i].ks.length kc, .slice na ps[i].ns.length nc] ∧
      W.cell? ⟨b, off + i * 7, none⟩ = some (.string ps[i].nm) ∧ W.cell? ⟨b, off + i * 7 + 1, none⟩ = some (.int .i64 ps[i].args) ∧ W.cell? ⟨b, off + i * 7 + 2, none⟩ = some (.int .i64 ps[i].free) ∧ W.cell? ⟨b, off + i * 7 + 3, none⟩ = some (.bool ps[i].rest) ∧ W.cell? ⟨b, off + i * 7 + 4, none⟩ = some (.slice co ps[i].code.length cc) ∧ W.cell? ⟨b, off + i * 7 + 5, none⟩ = some (.slice ka ps[i].ks.length kc) ∧ W.cell? ⟨b, off + i * 7 + 6, none⟩ = some (.slice na ps[i].ns.length nc) := by
  obtain ⟨-, b, off, rfl, cs, k1, k2, k3⟩ := hr.get hi
  obtain ⟨co, cc, ka, kc, na, nc, e, h1, h2, h3⟩ := k3
  subst e
  have hb : b < w0.heap.size := World.block_lt_of_cell? w0 _ (k2 0 (by decide))
  have key : ∀ j, j < 7 → W.cell? ⟨b, off + i * 7 + j, none⟩ = _ := fun j hj => (u.cell (p := ⟨b, off + i * 7 + j, none⟩) hb).trans (k2 j hj)
  exact ⟨b, off, rfl, co, cc, ka, kc, na, nc, ⟨co, cc, ka, kc, na, nc, rfl, h1, h2, h3⟩, key 0 (by decide), key 1 (by decide), key 2 (by decide), key 3 (by decide), key 4 (by decide), key 5 (by decide), key 6 (by decide)⟩

set_option maxRecDepth 100000 in
set_option maxHeartbeats 2000000 in
theorem wprogram_any {N : Nat} (w0 w : World) (wb : Nat) (ps : List (PC N)) (v : Value) (hr : RowD w0 (PCell w0) v ps) (hU : Up w0 w) (hW : WO w0.heap.size w wb []) (hg : ∀ p, p ∈ ps → goodP p = true) (hl : (pgB ps).length ≤ 1000000000) :
    Calls Try.prog 19 #[.pointer (some ⟨wb, 0, none⟩), v] w fun e w' => WEnd w0.heap.size w wb (pgB ps) e w' := by
  obtain ⟨iU, hiU, zU0, zU1, zU2⟩ := info_parts infoU8
  obtain ⟨ao, cap, rfl⟩ := hr.shape
  have hIl : ps.length ≤ cap ∧ cap ≤ 9223372036854775807 := by
    obtain ⟨ao', cap', e, h1, h2, -⟩ := hr
    cases e
    exact ⟨h1, h2⟩
  obtain ⟨T, hT⟩ : ∃ T, T = pgB ps := ⟨_, rfl⟩
  rw [← hT] at hl ⊢
  obtain ⟨q1, hq1⟩ : ∃ q, q = [84, 65, 78, 68] ++ numB ps.length := ⟨_, rfl⟩
  have hT2 : T = q1 ++ ps.flatMap proB := by rw [hT, hq1]; rfl
  have l1 : q1.length + (ps.flatMap proB).length ≤ 1000000000 := by rw [hT2, List.length_append] at hl; exact hl
  have HK1 := hide (fun (W : World) (hw : WO w0.heap.size W wb [84, 65, 78, 68]) (hu : Up w0 W) => show Calls Try.prog 40 #[.pointer (some ⟨wb, 0, none⟩), .int .i64 (ps.length : Int)] W fun e w' => WEnd w0.heap.size W wb q1 e w' by rw [hq1]; exact number_any w0.heap.size W wb [84, 65, 78, 68] ps.length hw (by omega) (by rw [← hq1]; omega) hu.size)
  have HK3 := hide (fun (W : World) (i : Nat) (hi : i < ps.length) (c0 c1 c2 c3 c4 c5 c6 : Value) (hd : PCell w0 ps[i] [c0, c1, c2, c3, c4, c5, c6]) (hu : Up w0 W) (hw : WO w0.heap.size W wb (q1 ++ (ps.take i).flatMap proB)) => show Calls Try.prog 41 #[.pointer (some ⟨wb, 0, none⟩), .agg #[c0, c1, c2, c3, c4, c5, c6]] W fun e w' => WEnd w0.heap.size W wb (q1 ++ (ps.take (i + 1)).flatMap proB) e w' by
    have h2 := flat_take_le proB ps (i + 1)
    rw [flat_take_succ proB ps i hi] at h2
    have := wproto_any w0 W wb (q1 ++ (ps.take i).flatMap proB) ps[i] c0 c1 c2 c3 c4 c5 c6 hd hu hw (hg _ (List.getElem_mem hi)) (by simp only [List.length_append] at h2 ⊢; omega)
    rw [List.append_assoc, ← flat_take_succ proB ps i hi] at this
    exact this)
  obtain ⟨v, hv⟩ := hW
  obtain ⟨aw, cw, ev⟩ := hv.shape
  have c0 := hv.cell
  have z0 := hv.free
  have hown := hv.own
  subst ev
  have hBs := hU.size
  have HV := hide hv
  have HT2 := hide hT2
  have HU := hide hU
  have HR := hide hr
  clear hT hT2 hl l1 hq1 hU hr hg hv
  go_enter Try.func19, Try.ntmps19
  go_wp2_with (first
    | (at_builtin; refine Lib.wpList_append_own_string _ rfl _ _ 23 9 rfl w0.heap.size 5 iU Try.underlying23 Try.underlying9 hiU zU0 zU1 zU2 _ ([] : List Nat).length _ rfl hown ⟨#[84, 65, 78, 68]⟩ rfl (by decide) (by decide) hBs ?_; intro v9 w9 hown9 hgrow9 _; obtain ⟨ao9, cap9, e9⟩ := row_shape hown9; subst e9; have y9 := (HV.out.at9 (Fr.refl _ _) hgrow9).1; have z9 := (HV.out.at9 (Fr.refl _ _) hgrow9).2; have HP9 := hide (HV.out.putV (x := [84, 65, 78, 68]) (Fr.refl _ _) rfl hown9 hgrow9); clear hown9 hgrow9)
    | (go_at_call 40; refine (HK1.out _ ⟨_, HP9.out.1⟩ (HP9.out.2.up HU.out)).mono ?_; rintro e1 w1 ⟨rfl, hw1, F1⟩; have HW1 := hide hw1; have HF1 := hide (HP9.out.2.trans F1); clear hw1 F1))
  go_loopw [20] (fun u wr => ∃ i : Nat, u = .int .i64 (i : Int) ∧ i ≤ ps.length ∧ WO w0.heap.size wr wb (q1 ++ (ps.take i).flatMap proB) ∧ FW w0.heap.size w wr) (fun u _ => ps.length - (intOf u).toNat)
  case atStart => exact ⟨0, rfl, Nat.zero_le _, by simpa using HW1.out, HF1.out⟩
  case round =>
    clear HW1 HF1 HK1
    obtain ⟨i, rfl, hi, hW, hF⟩ := hrel
    by_cases hil : i < ps.length
    · obtain ⟨b, off, rfl, co, cc, ka, kc, na, nc, hd, e0, e1, e2, e3, e4, e5, e6⟩ := proto_cells HR.out (hF.up HU.out) hil
      have HK := hide (fun (W : World) (hf : Fr (fun _ => False) wr W) => HK3.out W i hil _ _ _ _ _ _ _ hd (up_new (hF.up HU.out) hf) (hW.keep hf))
      have HF := hide hF
      have hkI : (i : Int) < (ps.length : Int) := by omega
      clear hW hF hd
      go_wp2_with (go_at_call 41; refine (HK.out _ ((Fr.refl _ _).alloc _)).mono ?_; rintro e9 w9 ⟨rfl, hw9, F9⟩)
      exact ⟨⟨i + 1, by go_num, hil, hw9, HF.out.trans ((FW.of ((Fr.refl _ _).alloc _)).trans F9)⟩, by simp [intOf]; omega⟩
    · have e : i = ps.length := by omega
      subst e
      rw [List.take_length] at hW
      have HW := hide hW
      have HF := hide hF
      have hil' : ¬ ((ps.length : Int) < (ps.length : Int)) := by omega
      clear hW hF hil
      go_wp2
      exact bodyPost_end (results_none rfl _ _ _) rfl ⟨rfl, by rw [HT2.out]; exact HW.out, HF.out⟩

theorem infoPr : (Try.prog.info? 48).map (fun i => (i.zero, i.size, i.bytes)) = some (some (.agg #[.string ⟨#[]⟩, .int .i64 0, .int .i64 0, .bool false, .slice none 0 0, .slice none 0 0, .slice none 0 0]), 7, 112) := by kernel_rfl

theorem infoIn : (Try.prog.info? 50).map (fun i => (i.zero, i.size, i.bytes)) = some (some (.agg #[.int .i64 0, .int .i64 0, .int .i64 0]), 3, 24) := by kernel_rfl

theorem infoSt : (Try.prog.info? 9).map (fun i => (i.zero, i.size, i.bytes)) = some (some (.string ⟨#[]⟩), 1, 16) := by kernel_rfl

/-- The cells of instructions, of names. -/
def cI (l : List (Int × Int × Int)) : List Value := l.flatMap fun x => [.int .i64 x.1, .int .i64 x.2.1, .int .i64 x.2.2]

def cN (l : List ByteArray) : List Value := l.map Value.string

theorem cI_len : ∀ l, (cI l).length = l.length * 3
  | [] => rfl
  | x :: l => by
    have e : cI (x :: l) = [.int .i64 x.1, .int .i64 x.2.1, .int .i64 x.2.2] ++ cI l := rfl
    rw [e, List.length_append, cI_len l]
    simp
    omega

theorem cI_get : ∀ (l : List (Int × Int × Int)) (j : Nat) (hj : j < l.length), (cI l)[j * 3]? = some (.int .i64 l[j].1) ∧ (cI l)[j * 3 + 1]? = some (.int .i64 l[j].2.1) ∧ (cI l)[j * 3 + 2]? = some (.int .i64 l[j].2.2)
  | [], j, hj => by simp at hj
  | x :: l, 0, _ => by simp [cI]
  | x :: l, j + 1, hj => by
    have ih := cI_get l j (by simpa using hj)
    have e : cI (x :: l) = .int .i64 x.1 :: .int .i64 x.2.1 :: .int .i64 x.2.2 :: cI l := rfl
    have e1 : (j + 1) * 3 = j * 3 + 3 := by omega
    rw [e, e1]
    exact ih

theorem CodeL.news {w : World} {co : Option Addr} {cc : Nat} {l : List (Int × Int × Int)} (h : CodeL w co cc l) : ∀ ad, co = some ad → ∀ j u, (cI l)[j]? = some u → w.cell? (ad.add j) = some u := fun ad ea j u hj => by
  have hlt : j < l.length * 3 := by
    rw [← cI_len]
    exact (List.getElem?_eq_some_iff.1 hj).1
  rcases h.2.2 with e | ⟨g, off, e, hc⟩
  · rw [e] at hlt; omega
  · rw [e] at ea
    cases ea
    obtain ⟨c0, c1, c2⟩ := hc (j / 3) (by omega)
    obtain ⟨g0, g1, g2⟩ := cI_get l (j / 3) (by omega)
    rw [Addr.add_lit]
    have hm : j % 3 = 0 ∨ j % 3 = 1 ∨ j % 3 = 2 := by omega
    rcases hm with hm | hm | hm
    · have ej : j = j / 3 * 3 := by omega
      rw [ej] at hj ⊢
      rw [g0] at hj
      cases hj
      exact c0
    · have ej : j = j / 3 * 3 + 1 := by omega
      rw [ej] at hj ⊢
      rw [g1] at hj
      cases hj
      exact c1
    · have ej : j = j / 3 * 3 + 2 := by omega
      rw [ej] at hj ⊢
      rw [g2] at hj
      cases hj
      exact c2

theorem NameL.news {w : World} {na : Option Addr} {nc : Nat} {l : List ByteArray} (h : NameL w na nc l) : ∀ ad, na = some ad → ∀ j u, (cN l)[j]? = some u → w.cell? (ad.add j) = some u := fun ad ea j u hj => by
  have hlt : j < l.length := by
    have := (List.getElem?_eq_some_iff.1 hj).1
    simpa [cN] using this
  rcases h.2.2 with e | ⟨g, off, e, hc⟩
  · omega
  · rw [e] at ea
    cases ea
    rw [Addr.add_lit, hc j hlt]
    simpa [cN, hlt] using hj

/-- All that is in a proto, in blocks of Q. -/
def AQ (Q : Nat → Prop) (co : Option Addr) (n : Nat) : Prop := n = 0 ∨ ∃ a, co = some a ∧ Q a.block

def PQ {N : Nat} (Q : Nat → Prop) (w : World) (p : PC N) (cs : List Value) : Prop :=
  ∃ co cc ka kc na nc, cs = [.string p.nm, .int .i64 p.args, .int .i64 p.free, .bool p.rest, .slice co p.code.length cc, .slice ka p.ks.length kc, .slice na p.ns.length nc] ∧ (CodeL w co cc p.code ∧ AQ Q co p.code.length) ∧ (RowD w (DatQ Q w N) (.slice ka p.ks.length kc) p.ks ∧ VQ Q (.slice ka p.ks.length kc) p.ks.length) ∧ (NameL w na nc p.ns ∧ AQ Q na p.ns.length)

theorem PQ.cell {N : Nat} {Q : Nat → Prop} {w : World} {p : PC N} {cs : List Value} (h : PQ Q w p cs) : PCell w p cs := by
  obtain ⟨co, cc, ka, kc, na, nc, e, h1, h2, h3⟩ := h
  exact ⟨co, cc, ka, kc, na, nc, e, h1.1, h2.1.mono (fun _ _ h => h.dat), h3.1⟩

theorem PQ.keep {N : Nat} {Q Q' : Nat → Prop} {w w' : World} (hw : ∀ k, k < w.heap.size → Q k → w'.heap[k]? = w.heap[k]?) (hQ : ∀ k, k < w.heap.size → Q k → Q' k) {p : PC N} {cs : List Value} (h : PQ Q w p cs) : PQ Q' w' p cs := by
  obtain ⟨co, cc, ka, kc, na, nc, e, ⟨h1, q1⟩, ⟨h2, q2⟩, h3, q3⟩ := h
  refine ⟨co, cc, ka, kc, na, nc, e, ⟨⟨h1.1, h1.2.1, ?_⟩, ?_⟩, ⟨h2.blk q2 hw (fun _ _ h => h.keep hw hQ), ?_⟩, ⟨h3.1, h3.2.1, ?_⟩, ?_⟩
  · rcases h1.2.2 with e | ⟨g, off, ea, hc⟩
    · exact .inl e
    · refine .inr ⟨g, off, ea, fun j hj => ?_⟩
      have hg : w'.heap[g]? = w.heap[g]? := by
        rcases q1 with e | ⟨a, ea', hq⟩
        · omega
        · rw [ea] at ea'
          cases ea'
          exact hw g (World.block_lt_of_cell? w _ (hc j hj).1) hq
      exact ⟨(World.cell?_of_block hg).trans (hc j hj).1, (World.cell?_of_block hg).trans (hc j hj).2.1, (World.cell?_of_block hg).trans (hc j hj).2.2⟩
  · rcases q1 with e | ⟨a, ea, hq⟩
    · exact .inl e
    · by_cases h0 : p.code.length = 0
      · exact .inl h0
      · refine .inr ⟨a, ea, ?_⟩
        rcases h1.2.2 with e | ⟨g, off, ea', hc⟩
        · omega
        · rw [ea] at ea'
          cases ea'
          exact hQ g (World.block_lt_of_cell? w _ (hc 0 (by omega)).1) hq
  · rcases q2 with e | ⟨a, l, c, ea, hq⟩
    · exact .inl e
    · by_cases h0 : p.ks.length = 0
      · exact .inl h0
      · refine .inr ⟨a, l, c, ea, ?_⟩
        obtain ⟨ao, cap, e, -, -, h2'⟩ := h2
        rcases h2' with e2 | ⟨b, off, e2, hc⟩
        · omega
        · rw [e, e2] at ea
          cases ea
          obtain ⟨cs, k1, k2, -⟩ := hc 0 (by omega)
          have k0 := k2 0 (by decide)
          have : cs[0]? = some (cs[0]'(by omega)) := List.getElem?_eq_getElem (by omega)
          rw [this] at k0
          exact hQ b (World.block_lt_of_cell? w _ k0) hq
  · rcases h3.2.2 with e | ⟨g, off, ea, hc⟩
    · exact .inl e
    · refine .inr ⟨g, off, ea, fun j hj => ?_⟩
      have hg : w'.heap[g]? = w.heap[g]? := by
        rcases q3 with e | ⟨a, ea', hq⟩
        · omega
        · rw [ea] at ea'
          cases ea'
          exact hw g (World.block_lt_of_cell? w _ (hc j hj)) hq
      exact (World.cell?_of_block hg).trans (hc j hj)
  · rcases q3 with e | ⟨a, ea, hq⟩
    · exact .inl e
    · by_cases h0 : p.ns.length = 0
      · exact .inl h0
      · refine .inr ⟨a, ea, ?_⟩
        rcases h3.2.2 with e | ⟨g, off, ea', hc⟩
        · omega
        · rw [ea] at ea'
          cases ea'
          exact hQ g (World.block_lt_of_cell? w _ (hc 0 (by omega))) hq

/-- k protos are copied. -/
structure CPP {N : Nat} (w : World) (ps : List (PC N)) (k : Nat) (v : Value) (xs : List Value) (wr : World) : Prop where
  fr : Fr (fun _ => False) w wr
  own : wr.ownsRow w.heap.size 48 7 v k xs
  it : ∀ j (hj : j < ps.length), j < k → PQ (fun b => w.heap.size ≤ b ∧ v.ownBlock ≠ some b) wr ps[j] (seven xs j)

theorem CPP.next {N : Nat} {w : World} {ps : List (PC N)} {k : Nat} {v : Value} {xs : List Value} {wr w2 w9 : World} {d0 d1 d2 d3 d4 d5 d6 : Value} {o : Obj} {g cap : Nat} (hA : CPP w ps k v xs wr) (hk : k < ps.length) (F2 : Fr (fun _ => False) wr w2) (hd : PQ (fun b => wr.heap.size ≤ b) w2 ps[k] [d0, d1, d2, d3, d4, d5, d6])
    (hown : w9.ownsRow w.heap.size 48 7 (.slice (some ⟨g, 0, none⟩) (k + 1) cap) (k + 1) (xs ++ [d0, d1, d2, d3, d4, d5, d6])) (hgrow : (w2.alloc o).grownBy w9 v.ownBlock) (hat : v.ownBlock = some g ∨ g = w2.heap.size + 1) :
    CPP w ps (k + 1) (.slice (some ⟨g, 0, none⟩) (k + 1) cap) (xs ++ [d0, d1, d2, d3, d4, d5, d6]) w9 := by
  have hlen := hA.own.1
  have hs2 := F2.size
  have hs0 := hA.fr.size
  have vlt : ∀ b, v.ownBlock = some b → w.heap.size ≤ b ∧ b < wr.heap.size := fun b hb => hA.own.lt b hb
  refine ⟨(hA.fr.trans (F2.alloc o) (fun _ _ e => e)).grow hgrow (fun b hb e => by have := (vlt b e).1; omega), hown, fun j hj hjk => ?_⟩
  by_cases e : j = k
  · subst e
    rw [seven_new hlen rfl]
    refine PQ.keep (w := w2) (fun b hb hq => ?_) (fun b hb hq => ⟨by omega, fun e => ?_⟩) hd
    · rw [hgrow.block b (by simp; omega) (fun e => by have := (vlt b e.symm).2; omega)]
      exact heap_alloc_old _ _ hb
    · have e' : g = b := by simpa [Value.ownBlock] using e
      rcases hat with h1 | h1
      · have := (vlt g h1).2; omega
      · omega
  · rw [seven_old hlen (by omega)]
    refine PQ.keep (w := wr) (fun b hb hq => ?_) (fun b hb hq => ⟨hq.1, fun e => ?_⟩) (hA.it j hj (by omega))
    · rw [hgrow.block b (by simp; omega) (fun e => hq.2 e.symm), heap_alloc_old _ _ (by omega)]
      exact F2.block b hb (fun e => e)
    · have e' : g = b := by simpa [Value.ownBlock] using e
      rcases hat with h1 | h1
      · exact hq.2 (by rw [h1, e'])
      · omega

theorem CPP.fin {N : Nat} {w : World} {ps : List (PC N)} {v : Value} {xs : List Value} {wr : World} (hA : CPP w ps ps.length v xs wr) : RowD wr (PCell wr) v ps ∧ Fr (fun _ => False) w wr := by
  have hlen := hA.own.1
  rcases hA.own.2 with ⟨rfl, h0⟩ | ⟨g, cap, cur, rfl, h1, h2, h3, h4, h5, h6⟩
  · exact ⟨⟨none, 0, by rw [h0], by omega, by decide, .inl h0⟩, hA.fr⟩
  · refine ⟨⟨some ⟨g, 0, none⟩, cap, rfl, h3, by unfold maxLen at h4; omega, .inr ⟨g, 0, rfl, fun i hi => ⟨seven xs i, ?_, fun j hj => ?_, ?_⟩⟩⟩, hA.fr⟩
    · unfold seven
      rw [List.length_take, List.length_drop]
      omega
    · rw [cell_of_row wr g _ cur _ _ h2, ← Array.getElem?_toList, Nat.zero_add]
      unfold seven
      rw [List.getElem?_take, if_pos hj, List.getElem?_drop]
      have := congrArg (fun l : List Value => l[i * 7 + j]?) h6
      simp only [List.getElem?_take] at this
      rw [if_pos (by omega)] at this
      exact this
    · exact (hA.it i hi hi).cell

/-- A proto as it came in: nil slices have no room. -/
def PCellN {N : Nat} (w : World) (p : PC N) (cs : List Value) : Prop := PCell w p cs ∧ (∀ n cc, cs[4]? = some (.slice none n cc) → cc = 0) ∧ ∀ n nc, cs[6]? = some (.slice none n nc) → nc = 0

/-- append of a slice that lies there to nil: a row of its own. -/
theorem wpList_cpy {w : World} {ops : Array Oper} {rest : List Oper} {o : Oper} {a : Act} {Q : Exit → Act → World → Prop} (hg : o.guard = none) (s x : Operand) (t : TypeId) (ho : o.op = .call { callee := .builtin .append, args := #[s, x], argTypes := #[t, t] })
    (e : TypeId) (i : TypeInfo) (z : Value) (size bytes : Nat) (ht : Try.prog.underlying t = some (.slice e)) (hi : Try.prog.info? e = some i) (hz : i.zero = some z) (hsize : i.size = size) (hby : i.bytes = bytes) (hzs : z.cells.size = size) (hsz : 0 < size)
    (hs : a.eval s = .slice none 0 0) (ao : Option Addr) (m c : Nat) (hx : a.eval x = .slice ao m c) (ha : ao = none → m = 0 ∧ c = 0) (news : List Value) (hl : news.length = m * size) (hnews : ∀ ad, ao = some ad → ∀ j u, news[j]? = some u → w.cell? (ad.add j) = some u) (h1 : ∀ u ∈ news, u.oneCell' = true) (h63 : m ≤ maxLen) (hbytes : m * bytes ≤ 140737488355328)
    (hK : ∀ v' w', w'.ownsRow w.heap.size e size v' m news → Fr (fun _ => False) w w' → wpList Try.prog ops Q rest (a.put o.dst v') w') : wpList Try.prog ops Q (o :: rest) a w := by
  have hnil := World.ownsRow_nil w w.heap.size e size
  cases ao with
  | none =>
    obtain ⟨rfl, rfl⟩ := ha rfl
    have hn0 : news = [] := List.length_eq_zero_iff.1 (by omega)
    subst hn0
    refine wpList_append_own_none hg s x t ho w.heap.size e i size ht hi _ _ _ hs hnil hx ?_
    exact hK _ _ hnil (Fr.refl _ _)
  | some ad =>
    refine wpList_append_own _ hg s x t ho w.heap.size e i z size bytes ht hi hz hsize hby hzs hsz _ _ _ hs hnil ad m c news hx hl (hnews ad rfl) h1 (by rw [Nat.zero_add]; exact h63) (by rw [Nat.zero_add]; exact hbytes) (Nat.le_refl _) ?_
    intro v' w' hown hgrow _
    simp only [Nat.zero_add, List.nil_append] at hown
    exact hK v' w' hown ((Fr.refl _ _).grow hgrow (fun k _ e => by cases e))

theorem own_shape {w : World} {B : Nat} {e : TypeId} {size : Nat} {v : Value} {n : Nat} {xs : List Value} (h : w.ownsRow B e size v n xs) : ∃ ao cap, v = .slice ao n cap ∧ n ≤ cap ∧ cap ≤ 9223372036854775807 ∧ (n = 0 ∨ ∃ g, ao = some ⟨g, 0, none⟩ ∧ B ≤ g ∧ g < w.heap.size ∧ ∀ j u, xs[j]? = some u → w.cell? ⟨g, j, none⟩ = some u) := by
  rcases h.2 with ⟨e, e0⟩ | ⟨g, cap, cur, e, h1, h2, h3, h4, h5, h6⟩
  · exact ⟨none, 0, by rw [e, e0], by omega, by omega, .inl e0⟩
  · refine ⟨_, _, e, h3, by unfold maxLen at h4; omega, .inr ⟨g, rfl, h1, (Array.getElem?_eq_some_iff.1 h2).1, fun j u hj => ?_⟩⟩
    rw [cell_of_row w g j cur _ _ h2, ← Array.getElem?_toList]
    rw [← h6, List.getElem?_take] at hj
    split at hj
    · exact hj
    · cases hj

theorem codeL_of {w : World} {B : Nat} {co : Option Addr} {cc : Nat} {l : List (Int × Int × Int)} (h1 : l.length ≤ cc) (h2 : cc ≤ 9223372036854775807) (h : l.length = 0 ∨ ∃ g, co = some ⟨g, 0, none⟩ ∧ B ≤ g ∧ g < w.heap.size ∧ ∀ j u, (cI l)[j]? = some u → w.cell? ⟨g, j, none⟩ = some u) : CodeL w co cc l ∧ AQ (fun b => B ≤ b) co l.length := by
  rcases h with e | ⟨g, ea, hB, hg, hc⟩
  · exact ⟨⟨h1, h2, .inl e⟩, .inl e⟩
  · refine ⟨⟨h1, h2, .inr ⟨g, 0, ea, fun j hj => ?_⟩⟩, .inr ⟨_, ea, hB⟩⟩
    obtain ⟨g0, g1, g2⟩ := cI_get l j hj
    rw [Nat.zero_add]
    exact ⟨hc _ _ g0, hc _ _ g1, hc _ _ g2⟩

theorem nameL_of {w : World} {B : Nat} {na : Option Addr} {nc : Nat} {l : List ByteArray} (h1 : l.length ≤ nc) (h2 : nc ≤ 9223372036854775807) (h : l.length = 0 ∨ ∃ g, na = some ⟨g, 0, none⟩ ∧ B ≤ g ∧ g < w.heap.size ∧ ∀ j u, (cN l)[j]? = some u → w.cell? ⟨g, j, none⟩ = some u) : NameL w na nc l ∧ AQ (fun b => B ≤ b) na l.length := by
  rcases h with e | ⟨g, ea, hB, hg, hc⟩
  · exact ⟨⟨h1, h2, .inl e⟩, .inl e⟩
  · refine ⟨⟨h1, h2, .inr ⟨g, 0, ea, fun j hj => ?_⟩⟩, .inr ⟨_, ea, hB⟩⟩
    rw [Nat.zero_add]
    exact hc j _ (by simp [cN, hj])

end Go.Proofs.Ytilcigjhogcjkaa
