/-
  What is proved here: tandemlaw00.CopyProtos makes protos in new memory of which the same is looked at.
-/
import Derived.Test.YtmogglmofbbjlaaKCopyA
namespace Go.Proofs.Ytmogglmofbbjlaa
open Go Go.RowKit

/-- What is copied of a proto besides its instructions, as it came in. -/
structure PIn (w : World) (N : Nat) (p : PR) (q : Hd) (I : List (Tr N)) (L : List Value) : Prop where
  co0 : q.co = none → p.len = 0 ∧ q.cc = 0
  row : RowD w (DatC w N) (.slice q.ka p.nc q.kc) I
  bk : (I.map (bk N)).sum ≤ 10000000
  na0 : q.na = none → p.nn = 0 ∧ q.nc = 0
  nl : L.length = p.nn
  n1 : ∀ u ∈ L, u.oneCell' = true
  nc : ∀ ad, q.na = some ad → ∀ j u, L[j]? = some u → w.cell? (ad.add j) = some u
  b1 : p.len ≤ 10000000
  b2 : p.nn ≤ 10000000
theorem PIn.up {w w' : World} {N : Nat} {p : PR} {q : Hd} {I : List (Tr N)} {L : List Value} (h : PIn w N p q I L) (hf : Fr (fun _ => False) w w') : PIn w' N p q I L :=
  { h with
    row := h.row.upD hf.upw
    nc := fun ad e j u hj => by
      have hc := h.nc ad e j u hj
      have hb : (ad.add j).block < w.heap.size := World.block_lt_of_cell? w _ hc
      exact (World.cell?_of_block (hf.block _ hb (fun e => e))).trans hc }
/-- CopyAll, as far as it is looked at here. -/
theorem copyC {w : World} {N : Nat} {p : PR} {q : Hd} {I : List (Tr N)} {L : List Value} (h : PIn w N p q I L) :
    Calls Try.prog 18 #[.slice q.ka p.nc q.kc] w fun e w' => ∃ ka kc, e = .returned (.slice ka p.nc kc) ∧ Fr (fun _ => False) w w' := by
  refine (copyAll_all N I _ w h.row h.bk).mono ?_
  rintro e w' ⟨v', rfl, hr, -, u⟩
  obtain ⟨ka, kc, rfl⟩ := hr.shape
  obtain ⟨a0, c0, e0⟩ := h.row.shape
  injection e0 with _ e1 _
  exact ⟨ka, kc, by rw [e1], u.frw⟩
/-- A box of seven cells. -/
def Bx (w : World) (B : Nat) (c0 c1 c2 c3 c4 c5 c6 : Value) : Prop := w.heap[B]? = some (.cells #[c0, c1, c2, c3, c4, c5, c6] 45 (0, 0))
theorem Bx.fr {w w' : World} {B : Nat} {c0 c1 c2 c3 c4 c5 c6 : Value} (h : Bx w B c0 c1 c2 c3 c4 c5 c6) (hf : Fr (fun _ => False) w w') : Bx w' B c0 c1 c2 c3 c4 c5 c6 := (hf.block B (Array.getElem?_eq_some_iff.1 h).1 (fun e => e)).trans h
theorem Bx.s4 {w : World} {B : Nat} {c0 c1 c2 c3 c4 c5 c6 : Value} (h : Bx w B c0 c1 c2 c3 c4 c5 c6) (v : Value) : Bx (w.setCell ⟨B, 4, none⟩ v) B c0 c1 c2 c3 v c5 c6 := (heap_setCell_same w B 4 _ _ v h).trans rfl
theorem Bx.s5 {w : World} {B : Nat} {c0 c1 c2 c3 c4 c5 c6 : Value} (h : Bx w B c0 c1 c2 c3 c4 c5 c6) (v : Value) : Bx (w.setCell ⟨B, 5, none⟩ v) B c0 c1 c2 c3 c4 v c6 := (heap_setCell_same w B 5 _ _ v h).trans rfl
theorem Bx.s6 {w : World} {B : Nat} {c0 c1 c2 c3 c4 c5 c6 : Value} (h : Bx w B c0 c1 c2 c3 c4 c5 c6) (v : Value) : Bx (w.setCell ⟨B, 6, none⟩ v) B c0 c1 c2 c3 c4 c5 v := (heap_setCell_same w B 6 _ _ v h).trans rfl
theorem Bx.k0 {w : World} {B : Nat} {c0 c1 c2 c3 c4 c5 c6 : Value} (h : Bx w B c0 c1 c2 c3 c4 c5 c6) : w.cell? ⟨B, 0, none⟩ = some c0 := cell_row h rfl
theorem Bx.k1 {w : World} {B : Nat} {c0 c1 c2 c3 c4 c5 c6 : Value} (h : Bx w B c0 c1 c2 c3 c4 c5 c6) : w.cell? ⟨B, 1, none⟩ = some c1 := cell_row h rfl
theorem Bx.k2 {w : World} {B : Nat} {c0 c1 c2 c3 c4 c5 c6 : Value} (h : Bx w B c0 c1 c2 c3 c4 c5 c6) : w.cell? ⟨B, 2, none⟩ = some c2 := cell_row h rfl
theorem Bx.k3 {w : World} {B : Nat} {c0 c1 c2 c3 c4 c5 c6 : Value} (h : Bx w B c0 c1 c2 c3 c4 c5 c6) : w.cell? ⟨B, 3, none⟩ = some c3 := cell_row h rfl
theorem Bx.k4 {w : World} {B : Nat} {c0 c1 c2 c3 c4 c5 c6 : Value} (h : Bx w B c0 c1 c2 c3 c4 c5 c6) : w.cell? ⟨B, 4, none⟩ = some c4 := cell_row h rfl
theorem Bx.k5 {w : World} {B : Nat} {c0 c1 c2 c3 c4 c5 c6 : Value} (h : Bx w B c0 c1 c2 c3 c4 c5 c6) : w.cell? ⟨B, 5, none⟩ = some c5 := cell_row h rfl
theorem Bx.k6 {w : World} {B : Nat} {c0 c1 c2 c3 c4 c5 c6 : Value} (h : Bx w B c0 c1 c2 c3 c4 c5 c6) : w.cell? ⟨B, 6, none⟩ = some c6 := cell_row h rfl
theorem Bx.lt {w : World} {B : Nat} {c0 c1 c2 c3 c4 c5 c6 : Value} (h : Bx w B c0 c1 c2 c3 c4 c5 c6) : B < w.heap.size := (Array.getElem?_eq_some_iff.1 h).1
theorem hcells7s (w : World) (b i : Nat) (x : Value) (c0 c1 c2 c3 c4 c5 c6 : Value) (E : TypeId) : ∀ j u, [c0, c1, c2, c3, c4, c5, c6][j]? = some u → ((w.setCell ⟨b, i, none⟩ x).alloc (.cells #[c0, c1, c2, c3, c4, c5, c6] E)).cell? ((⟨w.heap.size, 0, none⟩ : Addr).add j) = some u := by
  have e : (w.setCell ⟨b, i, none⟩ x).heap.size = w.heap.size := by simp [World.setCell]
  rw [← e]
  exact hcells7 _ _ _ _ _ _ _ _ _
theorem prL_one (p : PR) (q : Hd) : ∀ u ∈ prL p q, u.oneCell' = true := fun u hu => by
  simp [prL] at hu
  rcases hu with rfl | rfl | rfl | rfl | rfl | rfl | rfl <;> rfl

theorem codeX_on {w6 w7 w8 : World} {B C : Nat} {co : Option Addr} {p : PR} {a b c : Value} (h : CodeX w6 C none co p) (hC : B < C) (F7 : Fr (fun _ => False) (w6.setCell ⟨B, 4, none⟩ a) w7) (F8 : Fr (fun _ => False) (w7.setCell ⟨B, 5, none⟩ b) w8) : CodeX (w8.setCell ⟨B, 6, none⟩ c) B none co p := by
  have s6 : (w6.setCell ⟨B, 4, none⟩ a).heap.size = w6.heap.size := by simp [World.setCell]
  have s7 : (w7.setCell ⟨B, 5, none⟩ b).heap.size = w7.heap.size := by simp [World.setCell]
  have s8 : (w8.setCell ⟨B, 6, none⟩ c).heap.size = w8.heap.size := by simp [World.setCell]
  have h7 := F7.size
  have h8 := F8.size
  refine h.keep (by omega) (fun g hg hlt _ => ?_) (fun _ _ _ _ e => by cases e) B (by omega)
  have hne : g ≠ B := by omega
  rw [heap_setCell_other _ _ _ _ hne, F8.block g (by omega) (fun e => e), heap_setCell_other _ _ _ _ hne, F7.block g (by omega) (fun e => e), heap_setCell_other _ _ _ _ hne]
theorem PB.copy {p : PR} {q q' : Hd} (h : PB p q) (h1 : p.len ≤ q'.cc) (h2 : q'.cc ≤ maxLen) : PB p q' := ⟨h.a1, h.a2, h.f1, h.f2, h1, by unfold maxLen at h2; omega, h.k1, h.n1, h.o, h.a, h.b⟩
/-- The step, at the worlds that the walk shows. -/
theorem CP.step {w : World} {P : Nat → PR} {k : Nat} {v : Value} {xs : List Value} {wr w8 w9 : World} {B : Nat} {c : Value} {q : Hd} {o : Obj} {g cap : Nat} (hA : CP w P k v xs wr) (F8 : Fr (fun _ => False) wr (w8.setCell ⟨B, 6, none⟩ c)) (hpb : PB (P k) q) (hq : CodeX (w8.setCell ⟨B, 6, none⟩ c) wr.heap.size none q.co (P k))
    (hown : w9.ownsRow w.heap.size 45 7 (.slice (some ⟨g, 0, none⟩) (k + 1) cap) (k + 1) (xs ++ prL (P k) q)) (hgrow : ((w8.setCell ⟨B, 6, none⟩ c).alloc o).grownBy w9 v.ownBlock) (hat : v.ownBlock = some g ∨ g = w8.heap.size + 1) :
    CP w P (k + 1) (.slice (some ⟨g, 0, none⟩) (k + 1) cap) (xs ++ prL (P k) q) w9 := by
  have s8 : (w8.setCell ⟨B, 6, none⟩ c).heap.size = w8.heap.size := by simp [World.setCell]
  exact hA.next F8 hpb hq hown hgrow (by rw [s8]; exact hat)
/-- What CopyProtos comes to. -/
def CPEnd (w : World) (np : Nat) (P : Nat → PR) (e : Ending) (w' : World) : Prop := ∃ so sc Q, e = .returned (.slice so np sc) ∧ np ≤ sc ∧ sc ≤ 9223372036854775807 ∧ ProtosAt w' so np P Q ∧ Fr (fun _ => False) w w'

set_option maxHeartbeats 4000000 in
set_option maxRecDepth 100000 in
theorem copyProtos_any (w : World) (so : Option Addr) (np sc N : Nat) (P : Nat → PR) (Q : Nat → Hd) (I : Nat → List (Tr N)) (L : Nat → List Value) (hP : ProtosAt w so np P Q) (hI : ∀ i, i < np → PIn w N (P i) (Q i) (I i) (L i)) (h1 : np ≤ sc) (_h2 : sc ≤ 9223372036854775807) (h3 : np ≤ 10000000) :
    Calls Try.prog 8 #[.slice so np sc] w fun e w' => CPEnd w np P e w' := by
  obtain ⟨iP, hiP, zP0, zP1, zP2⟩ := info_parts infoPr
  obtain ⟨iI, hiI, zI0, zI1, zI2⟩ := info_parts infoIn
  obtain ⟨iS, hiS, zS0, zS1, zS2⟩ := info_parts infoSt
  have HP := hide hP
  have HI := hide hI
  have HI0 : Hid (CP w P 0 (.slice none 0 0) [] w) := hide ⟨Fr.refl _ w, World.ownsRow_nil _ _ _ _, fun j hj => by omega⟩
  clear hP hI
  go_enter Try.func8, Try.ntmps8
  go_wp2
  go_loopw [3, 4] (fun a3 a4 wr => ∃ (k : Nat) (xs : List Value), k ≤ np ∧ a4 = .int .i64 (k : Int) ∧ CP w P k a3 xs wr) (fun _ a4 _ => np - (intOf a4).toNat)
  case atStart => exact ⟨0, [], Nat.zero_le _, rfl, HI0.out⟩
  case round =>
    obtain ⟨k, xs, hk, rfl, hA⟩ := hrel
    obtain ⟨aoV, capV, eV, -, -⟩ := own_shape hA.own
    subst eV
    by_cases hlt : k < np
    · have hPr := HP.out.new hA.fr
      obtain ⟨g, off, rfl⟩ : ∃ g off, so = some ⟨g, off, none⟩ := by
        rcases hPr with e | ⟨g, off, e, _⟩
        · omega
        · exact ⟨g, off, e⟩
      have hone : PrAt wr g (off + k * 7) (P k) (Q k) ∧ CodeAt wr (Q k).co (P k) ∧ PB (P k) (Q k) := by
        rcases hPr with e | ⟨g', off', e, hh⟩
        · omega
        · cases e
          exact hh k hlt
      have hin := (HI.out k hlt).up hA.fr
      have c0 := hone.1.c0
      have c1 := hone.1.c1
      have c2 := hone.1.c2
      have c3 := hone.1.c3
      have c4 := hone.1.c4
      have c5 := hone.1.c5
      have c6 := hone.1.c6
      have hb1 := hin.b1
      have hb2 := hin.b2
      have HC := hide hone.2.1
      have HB := hide hone.2.2
      have HN := hide hin
      have HA := hide hA
      have hsz := hA.fr.size
      have hkI : (k : Int) < (np : Int) := by omega
      have hB0 : Hid (Bx (wr.alloc (.cells #[.string (Q k).nm, .int .i64 (P k).args, .int .i64 (P k).free, .bool (P k).rest, .slice (Q k).co (P k).len (Q k).cc, .slice (Q k).ka (P k).nc (Q k).kc, .slice (Q k).na (P k).nn (Q k).nc] 45)) wr.heap.size (.string (Q k).nm) (.int .i64 (P k).args) (.int .i64 (P k).free) (.bool (P k).rest) (.slice (Q k).co (P k).len (Q k).cc) (.slice (Q k).ka (P k).nc (Q k).kc) (.slice (Q k).na (P k).nn (Q k).nc)) := hide (heap_alloc_new wr _)
      clear hPr hone hin hA
      go_wp2_with (first
        | (at_builtin; refine wpList_cpy rfl _ _ 42 rfl 47 iI _ 3 24 Try.underlying42 hiI zI0 zI1 zI2 rfl (by decide) rfl (Q k).co (P k).len (Q k).cc rfl HN.out.co0 (insL (P k)) (insL_len _) ((HC.out.fr ((Fr.refl _ _).alloc _) (fun _ _ _ _ e => e)).news) (insL_one _) (by unfold maxLen; omega) (by omega) ?_; intro v6 w6 own6 F6; obtain ⟨co6, cc6, e6, m6, n6⟩ := own_shape own6; subst e6; have B6 := (hB0.out.fr F6); have z6 : w6.frozen? ⟨wr.heap.size, 4, none⟩ = false := frozen_of_row _ _ _ _ _ B6; have y6 := B6.k4; have hl6 := B6.lt; have S6 := B6.s4 (.slice co6 (P k).len cc6); have q60 := S6.k0; have q61 := S6.k1; have q62 := S6.k2; have q63 := S6.k3; have q64 := S6.k4; have q65 := S6.k5; have q66 := S6.k6; have HF6 : Hid (Fr (fun _ => False) wr (w6.setCell ⟨wr.heap.size, 4, none⟩ (.slice co6 (P k).len cc6))) := hide ((((Fr.refl _ _).alloc _).trans F6 (fun _ _ e => e)).setCell (fun e => absurd e (Nat.lt_irrefl _)) _ _); have HX6 := hide (CodeX.of own6); have HS6 := hide S6; clear own6 F6 B6 S6)
        | (go_at_call 18; refine (copyC (HN.out.up HF6.out)).mono ?_; rintro e7 w7 ⟨ka7, kc7, rfl, F7⟩; have B7 := HS6.out.fr F7; have z7 : w7.frozen? ⟨wr.heap.size, 5, none⟩ = false := frozen_of_row _ _ _ _ _ B7; have y7 := B7.k5; have S7 := B7.s5 (.slice ka7 (P k).nc kc7); have q70 := S7.k0; have q71 := S7.k1; have q72 := S7.k2; have q73 := S7.k3; have q74 := S7.k4; have q75 := S7.k5; have q76 := S7.k6; have HF7 : Hid (Fr (fun _ => False) wr (w7.setCell ⟨wr.heap.size, 5, none⟩ (.slice ka7 (P k).nc kc7))) := hide ((HF6.out.trans F7 (fun _ _ e => e)).setCell (fun e => absurd e (Nat.lt_irrefl _)) _ _); have HG7 := hide F7; have HS7 := hide S7; clear F7 B7 S7)
        | (at_builtin; refine wpList_cpy rfl _ _ 43 rfl 9 iS _ 1 16 Try.underlying43 hiS zS0 zS1 zS2 rfl (by decide) rfl (Q k).na (P k).nn (Q k).nc rfl HN.out.na0 (L k) (by rw [HN.out.nl]; omega) ((HN.out.up HF7.out).nc) HN.out.n1 (by unfold maxLen; omega) (by omega) ?_; intro v8 w8 own8 F8; go_loud (obtain ⟨na8, nc8, e8, m8, n8⟩ := own_shape own8; subst e8; have B8 := HS7.out.fr F8; have z8 : w8.frozen? ⟨wr.heap.size, 6, none⟩ = false := frozen_of_row _ _ _ _ _ B8; have y8 := B8.k6; have S8 := B8.s6 (.slice na8 (P k).nn nc8); have q80 := S8.k0; have q81 := S8.k1; have q82 := S8.k2; have q83 := S8.k3; have q84 := S8.k4; have q85 := S8.k5; have q86 := S8.k6; have HF8 : Hid (Fr (fun _ => False) wr (w8.setCell ⟨wr.heap.size, 6, none⟩ (.slice na8 (P k).nn nc8))) := hide ((HF7.out.trans F8 (fun _ _ e => e)).setCell (fun e => absurd e (Nat.lt_irrefl _)) _ _); have HG8 := hide F8; have HR8 := hide (ownsRow_blk HA.out.own (w' := w8.setCell ⟨wr.heap.size, 6, none⟩ (.slice na8 (P k).nn nc8)) (fun g c hg => (HF8.out.block g (Array.getElem?_eq_some_iff.1 hg).1 (fun e => e)).trans hg)); have HZ8 : Hid (wr.heap.size ≤ w8.heap.size) := (by have h8 := HF8.out.size; have ss8 : (w8.setCell ⟨wr.heap.size, 6, none⟩ (.slice na8 (P k).nn nc8)).heap.size = w8.heap.size := (by simp [World.setCell]); rw [ss8] at h8; exact h8); clear own8 F8 B8 S8))
        | (at_builtin; refine wpList_append_lies _ rfl _ _ 22 rfl w.heap.size 45 iP _ 7 112 Try.underlying22 hiP zP0 zP1 zP2 rfl (by decide) _ k xs rfl (HR8.out.alloc _) ⟨w8.heap.size, 0, none⟩ 1 1 (prL (P k) ⟨(Q k).nm, co6, cc6, ka7, kc7, na8, nc8⟩) rfl rfl (hcells7s w8 _ _ _ _ _ _ _ _ _ _ _) (prL_one _ _) (by decide) (by unfold maxLen; omega) (by omega) (by have h8 := HZ8.out; simp; omega) (w8.heap.size + 1) (by simp) ?_; intro g9 cap9 w9 hown9 hgrow9 hat9 _; have HA9 := hide (HA.out.step HF8.out (q := ⟨(Q k).nm, co6, cc6, ka7, kc7, na8, nc8⟩) (HB.out.copy m6 n6) (codeX_on HX6.out (by simp) HG7.out HG8.out) hown9 hgrow9 hat9); clear hown9 hgrow9 hat9))
      refine ⟨⟨k + 1, _, by omega, by go_num, HA9.out⟩, ?_⟩
      simp [intOf]
      omega
    · have e : k = np := by omega
      subst e
      have hF := hA.fin
      have HF := hide hF
      have hkI : ¬ ((k : Int) < (k : Int)) := by omega
      clear hF hA hlt hk
      go_wp2
      go_ret
      obtain ⟨so', sc', Q', e1, e2, e3, e4, e5⟩ := HF.out
      exact ⟨so', sc', Q', congrArg Ending.returned e1, e2, e3, e4, e5⟩

end Go.Proofs.Ytmogglmofbbjlaa
