/-
  What is proved here: the closure that reads a datum of a row (package pack), given datum.
-/
import Derived.Test.YtmgaofpjbeihdaaPRDm
namespace Go.Proofs.Ytmgaofpjbeihdaa
open Go Go.RowKit

/-- A datum that was read lies in new blocks. -/
def okD {h : Nat} (w0 : World) (rb B : Nat) (x : Tr h × List Nat × Nat) (e : Ending) (w' : World) : Prop := ∃ (kk nn : Int) (bb : Bool) (m1 : Option Addr) (m2 m3 : Nat) (tt : ByteArray) (i1 : Option Addr) (i2 i3 : Nat) (r1 : Option Addr) (r2 r3 : Nat), e = .returned (.agg #[.int .i64 kk, .int .i64 nn, .bool bb, .slice m1 m2 m3, .string tt, .slice i1 i2 i3, .slice r1 r2 r3]) ∧ DatQ (fun b => B ≤ b) w' h x.1 [.int .i64 kk, .int .i64 nn, .bool bb, .slice m1 m2 m3, .string tt, .slice i1 i2 i3, .slice r1 r2 r3] ∧ RS w0 w' rb x.2.1 x.2.2
def DOK (h : Nat) : Prop := ∀ (w0 w : World) (rb p dp : Nat) (l : List Nat), RS w0 w rb l p → By8 l → l.length ≤ 100000000 → p ≤ 20000 → dp ≤ 100 → dp ≤ h →
  Calls Try.prog 77 #[.pointer (some ⟨rb, 0, none⟩), .int .i64 (dp : Int)] w fun e w' => RQ w rb (okD w0 rb w.heap.size) (rdDat h dp l p) e w'
/-- The two variables that the closure sees. -/
def BX (w : World) (b2 b3 rb dp : Nat) : Prop := w.heap[b2]? = some (.cells #[.pointer (some ⟨rb, 0, none⟩)] 91 (0, 0)) ∧ w.heap[b3]? = some (.cells #[.int .i64 (dp : Int)] 3 (0, 0)) ∧ b2 ≠ rb ∧ b3 ≠ rb
theorem BX.fr {w w' : World} {b2 b3 rb dp : Nat} (h : BX w b2 b3 rb dp) (F : Fr (fun j => j = rb) w w') : BX w' b2 b3 rb dp := ⟨(F.block b2 (Array.getElem?_eq_some_iff.1 h.1).1 h.2.2.1).trans h.1, (F.block b3 (Array.getElem?_eq_some_iff.1 h.2.1).1 h.2.2.2).trans h.2.1, h.2.2⟩
theorem BX.lt {w : World} {b2 b3 rb dp : Nat} (h : BX w b2 b3 rb dp) : b2 < w.heap.size ∧ b3 < w.heap.size := ⟨(Array.getElem?_eq_some_iff.1 h.1).1, (Array.getElem?_eq_some_iff.1 h.2.1).1⟩

theorem DBx.s0 {w : World} {B : Nat} {c0 c1 c2 c3 c4 c5 c6 : Value} (h : DBx w B c0 c1 c2 c3 c4 c5 c6) (x : Value) : DBx (w.setCell ⟨B, 0, none⟩ x) B x c1 c2 c3 c4 c5 c6 := (heap_setCell_same w B 0 _ _ x h).trans rfl
theorem DBx.s1 {w : World} {B : Nat} {c0 c1 c2 c3 c4 c5 c6 : Value} (h : DBx w B c0 c1 c2 c3 c4 c5 c6) (x : Value) : DBx (w.setCell ⟨B, 1, none⟩ x) B c0 x c2 c3 c4 c5 c6 := (heap_setCell_same w B 1 _ _ x h).trans rfl
theorem DBx.s2 {w : World} {B : Nat} {c0 c1 c2 c3 c4 c5 c6 : Value} (h : DBx w B c0 c1 c2 c3 c4 c5 c6) (x : Value) : DBx (w.setCell ⟨B, 2, none⟩ x) B c0 c1 x c3 c4 c5 c6 := (heap_setCell_same w B 2 _ _ x h).trans rfl
theorem DBx.s3 {w : World} {B : Nat} {c0 c1 c2 c3 c4 c5 c6 : Value} (h : DBx w B c0 c1 c2 c3 c4 c5 c6) (x : Value) : DBx (w.setCell ⟨B, 3, none⟩ x) B c0 c1 c2 x c4 c5 c6 := (heap_setCell_same w B 3 _ _ x h).trans rfl
theorem DBx.s4 {w : World} {B : Nat} {c0 c1 c2 c3 c4 c5 c6 : Value} (h : DBx w B c0 c1 c2 c3 c4 c5 c6) (x : Value) : DBx (w.setCell ⟨B, 4, none⟩ x) B c0 c1 c2 c3 x c5 c6 := (heap_setCell_same w B 4 _ _ x h).trans rfl
theorem DBx.s5 {w : World} {B : Nat} {c0 c1 c2 c3 c4 c5 c6 : Value} (h : DBx w B c0 c1 c2 c3 c4 c5 c6) (x : Value) : DBx (w.setCell ⟨B, 5, none⟩ x) B c0 c1 c2 c3 c4 x c6 := (heap_setCell_same w B 5 _ _ x h).trans rfl
theorem DBx.s6 {w : World} {B : Nat} {c0 c1 c2 c3 c4 c5 c6 : Value} (h : DBx w B c0 c1 c2 c3 c4 c5 c6) (x : Value) : DBx (w.setCell ⟨B, 6, none⟩ x) B c0 c1 c2 c3 c4 c5 x := (heap_setCell_same w B 6 _ _ x h).trans rfl
theorem DBx.fz {w : World} {B : Nat} {c0 c1 c2 c3 c4 c5 c6 : Value} (h : DBx w B c0 c1 c2 c3 c4 c5 c6) (i : Nat) : w.frozen? ⟨B, i, none⟩ = false := frozen_of_row _ _ _ _ _ h
theorem DBx.frr {w w' : World} {B rb : Nat} {c0 c1 c2 c3 c4 c5 c6 : Value} (h : DBx w B c0 c1 c2 c3 c4 c5 c6) (F : Fr (fun j => j = rb) w w') (hn : B ≠ rb) : DBx w' B c0 c1 c2 c3 c4 c5 c6 := (F.block B (Array.getElem?_eq_some_iff.1 h).1 hn).trans h
/-- Seven cells of a variable are set. -/
def set7 (w : World) (B : Nat) (c0 c1 c2 c3 c4 c5 c6 : Value) : World := ((((((w.setCell ⟨B, 0, none⟩ c0).setCell ⟨B, 1, none⟩ c1).setCell ⟨B, 2, none⟩ c2).setCell ⟨B, 3, none⟩ c3).setCell ⟨B, 4, none⟩ c4).setCell ⟨B, 5, none⟩ c5).setCell ⟨B, 6, none⟩ c6
theorem set7_fr {S : Nat → Prop} {w w' : World} {B : Nat} (F : Fr S w w') (hB : w.heap.size ≤ B) (c0 c1 c2 c3 c4 c5 c6 : Value) : Fr S w (set7 w' B c0 c1 c2 c3 c4 c5 c6) :=
  ((((((F.setCell (fun e => by omega) _ _).setCell (fun e => by omega) _ _).setCell (fun e => by omega) _ _).setCell (fun e => by omega) _ _).setCell (fun e => by omega) _ _).setCell (fun e => by omega) _ _).setCell (fun e => by omega) _ _
theorem set7_rs {w0 w : World} {rb p B : Nat} {l : List Nat} (h : RS w0 w rb l p) (hB : rb < B) (c0 c1 c2 c3 c4 c5 c6 : Value) : RS w0 (set7 w B c0 c1 c2 c3 c4 c5 c6) rb l p := ((((((h.setO hB).setO hB).setO hB).setO hB).setO hB).setO hB).setO hB
theorem set7_other {w : World} {B k : Nat} (hk : k ≠ B) (c0 c1 c2 c3 c4 c5 c6 : Value) : (set7 w B c0 c1 c2 c3 c4 c5 c6).heap[k]? = w.heap[k]? := by
  unfold set7
  rw [heap_setCell_other _ _ _ _ hk, heap_setCell_other _ _ _ _ hk, heap_setCell_other _ _ _ _ hk, heap_setCell_other _ _ _ _ hk, heap_setCell_other _ _ _ _ hk, heap_setCell_other _ _ _ _ hk, heap_setCell_other _ _ _ _ hk]

set_option maxRecDepth 20000 in
theorem data1_no {h : Nat} (hC : DOK h) (w0 w : World) (rb p dp b2 b3 : Nat) (l : List Nat) (hr : RS w0 w rb l p) (h8 : By8 l) (hl : l.length ≤ 100000000) (hp : p ≤ 20000) (hd : dp ≤ 100) (hh : dp ≤ h) (hb : BX w b2 b3 rb dp) (hx : rdDat h dp l p = none) :
    Calls Try.prog 76 #[.pointer (some ⟨b2, 0, none⟩), .pointer (some ⟨b3, 0, none⟩)] w fun e w' => e = .panicked PAN ∧ Fr (fun j => j = rb) w w' := by
  have hB := hb.fr (rb := rb) ((Fr.refl (fun j => j = rb) w).alloc (.cells #[.int .i64 0, .int .i64 0, .bool false, .slice none 0 0, .string ⟨#[]⟩, .slice none 0 0, .slice none 0 0] 64))
  have y2 : (w.alloc (.cells #[.int .i64 0, .int .i64 0, .bool false, .slice none 0 0, .string ⟨#[]⟩, .slice none 0 0, .slice none 0 0] 64)).cell? ⟨b2, 0, none⟩ = some (.pointer (some ⟨rb, 0, none⟩)) := by rw [cell_of_row _ b2 0 _ _ _ hB.1]; rfl
  have y3 : (w.alloc (.cells #[.int .i64 0, .int .i64 0, .bool false, .slice none 0 0, .string ⟨#[]⟩, .slice none 0 0, .slice none 0 0] 64)).cell? ⟨b3, 0, none⟩ = some (.int .i64 (dp : Int)) := by rw [cell_of_row _ b3 0 _ _ _ hB.2.1]; rfl
  have K := hide (fun (W : World) (h' : RS w0 W rb l p) => (hC w0 W rb p dp l h' h8 hl hp hd hh).mono (fun _ _ q => q.no hx))
  have HR := hide (hr.mono (up_alloc w (.cells #[.int .i64 0, .int .i64 0, .bool false, .slice none 0 0, .string ⟨#[]⟩, .slice none 0 0, .slice none 0 0] 64)))
  have HF := hide ((Fr.refl (fun j => j = rb) w).alloc (.cells #[.int .i64 0, .int .i64 0, .bool false, .slice none 0 0, .string ⟨#[]⟩, .slice none 0 0, .slice none 0 0] 64))
  clear hB hb hr hx hC
  go_enter Try.func76, Try.ntmps76
  go_wp2_with (go_at_call 77; refine (K.out _ HR.out).mono ?_; rintro e1 w1 ⟨rfl, F1⟩; have HF1 := hide (HF.out.trans F1 (fun _ _ e => e)); clear F1)
  exact ⟨rfl, rfl, HF1.out⟩

set_option maxRecDepth 20000 in
theorem data1_yes {h : Nat} (hC : DOK h) (w0 w : World) (rb p dp b2 b3 : Nat) (l : List Nat) (hr : RS w0 w rb l p) (h8 : By8 l) (hl : l.length ≤ 100000000) (hp : p ≤ 20000) (hd : dp ≤ 100) (hh : dp ≤ h) (hb : BX w b2 b3 rb dp) (x : Tr h × List Nat × Nat) (hx : rdDat h dp l p = some x) :
    Calls Try.prog 76 #[.pointer (some ⟨b2, 0, none⟩), .pointer (some ⟨b3, 0, none⟩)] w fun e w' => okD w0 rb w.heap.size x e w' ∧ Fr (fun j => j = rb) w w' := by
  have hrb := hr.lt
  have hB := hb.fr (rb := rb) ((Fr.refl (fun j => j = rb) w).alloc (.cells #[.int .i64 0, .int .i64 0, .bool false, .slice none 0 0, .string ⟨#[]⟩, .slice none 0 0, .slice none 0 0] 64))
  have y2 : (w.alloc (.cells #[.int .i64 0, .int .i64 0, .bool false, .slice none 0 0, .string ⟨#[]⟩, .slice none 0 0, .slice none 0 0] 64)).cell? ⟨b2, 0, none⟩ = some (.pointer (some ⟨rb, 0, none⟩)) := by rw [cell_of_row _ b2 0 _ _ _ hB.1]; rfl
  have y3 : (w.alloc (.cells #[.int .i64 0, .int .i64 0, .bool false, .slice none 0 0, .string ⟨#[]⟩, .slice none 0 0, .slice none 0 0] 64)).cell? ⟨b3, 0, none⟩ = some (.int .i64 (dp : Int)) := by rw [cell_of_row _ b3 0 _ _ _ hB.2.1]; rfl
  have K := hide (fun (W : World) (h' : RS w0 W rb l p) => (hC w0 W rb p dp l h' h8 hl hp hd hh).mono (fun _ _ q => q.yes hx))
  have HR := hide (hr.mono (up_alloc w (.cells #[.int .i64 0, .int .i64 0, .bool false, .slice none 0 0, .string ⟨#[]⟩, .slice none 0 0, .slice none 0 0] 64)))
  have HF := hide ((Fr.refl (fun j => j = rb) w).alloc (.cells #[.int .i64 0, .int .i64 0, .bool false, .slice none 0 0, .string ⟨#[]⟩, .slice none 0 0, .slice none 0 0] 64))
  have HD : Hid (DBx (w.alloc (.cells #[.int .i64 0, .int .i64 0, .bool false, .slice none 0 0, .string ⟨#[]⟩, .slice none 0 0, .slice none 0 0] 64)) w.heap.size (.int .i64 0) (.int .i64 0) (.bool false) (.slice none 0 0) (.string ⟨#[]⟩) (.slice none 0 0) (.slice none 0 0)) := heap_alloc_new w _
  clear hB hb hr hx hC
  go_enter Try.func76, Try.ntmps76
  go_wp2_with (go_at_call 77; refine (K.out _ HR.out).mono ?_; rintro e1 w1 ⟨⟨kk, nn, bb, m1, m2, m3, tt, i1, i2, i3, r1, r2, r3, rfl, hq, hr1⟩, F1⟩; have D := HD.out.frr F1 (by omega); have fz0 := D.fz 0; have ky0 := D.k0; have S0 := D.s0 (.int .i64 kk); have fz1 := S0.fz 1; have ky1 := S0.k1; have S1 := S0.s1 (.int .i64 nn); have fz2 := S1.fz 2; have ky2 := S1.k2; have S2 := S1.s2 (.bool bb); have fz3 := S2.fz 3; have ky3 := S2.k3; have S3 := S2.s3 (.slice m1 m2 m3); have fz4 := S3.fz 4; have ky4 := S3.k4; have S4 := S3.s4 (.string tt); have fz5 := S4.fz 5; have ky5 := S4.k5; have S5 := S4.s5 (.slice i1 i2 i3); have fz6 := S5.fz 6; have ky6 := S5.k6; have S6 := S5.s6 (.slice r1 r2 r3); have kr0 := S6.k0; have kr1 := S6.k1; have kr2 := S6.k2; have kr3 := S6.k3; have kr4 := S6.k4; have kr5 := S6.k5; have kr6 := S6.k6; have HF1 := hide (HF.out.trans F1 (fun _ _ e => e)); have HQ := hide hq; have HR1 := hide hr1; clear F1 hq hr1 D S0 S1 S2 S3 S4 S5 S6)
  refine bodyPost_ret (by simp [results, Try.results76, go_sem, kr0, kr1, kr2, kr3, kr4, kr5, kr6]; rfl) rfl ?_
  refine ⟨⟨kk, nn, bb, m1, m2, m3, tt, i1, i2, i3, r1, r2, r3, rfl, HQ.out.keep (w' := set7 w1 w.heap.size (.int .i64 kk) (.int .i64 nn) (.bool bb) (.slice m1 m2 m3) (.string tt) (.slice i1 i2 i3) (.slice r1 r2 r3)) (fun k hk hq => set7_other (by simp at hq; omega) _ _ _ _ _ _ _) (fun k hk hq => by simp at hq; omega), set7_rs HR1.out hrb _ _ _ _ _ _ _⟩, set7_fr HF1.out (Nat.le_refl _) _ _ _ _ _ _ _⟩

end Go.Proofs.Ytmgaofpjbeihdaa
