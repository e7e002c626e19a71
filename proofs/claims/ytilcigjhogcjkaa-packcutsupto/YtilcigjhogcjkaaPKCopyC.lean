/-
  What is proved here: tandemlaw00.CopyProtos, walked.
-/
import Derived.Test.YtilcigjhogcjkaaPKCopyB
import Derived.Test.YtilcigjhogcjkaaPKWr2
namespace Go.Proofs.Ytilcigjhogcjkaa
open Go Go.RowKit

theorem codeQ_keep {Q Q' : Nat → Prop} {w w' : World} (hw : ∀ k, k < w.heap.size → Q k → w'.heap[k]? = w.heap[k]?) (hQ : ∀ k, Q k → Q' k) {co : Option Addr} {cc : Nat} {l : List (Int × Int × Int)} (h : CodeL w co cc l ∧ AQ Q co l.length) : CodeL w' co cc l ∧ AQ Q' co l.length := by
  obtain ⟨h1, q1⟩ := h
  refine ⟨⟨h1.1, h1.2.1, ?_⟩, q1.imp id (fun ⟨a, ea, hq⟩ => ⟨a, ea, hQ _ hq⟩)⟩
  rcases h1.2.2 with e | ⟨g, off, ea, hc⟩
  · exact .inl e
  · refine .inr ⟨g, off, ea, fun j hj => ?_⟩
    have hg : w'.heap[g]? = w.heap[g]? := by
      rcases q1 with e | ⟨a, ea', hq⟩
      · omega
      · rw [ea] at ea'
        cases ea'
        exact hw g (World.block_lt_of_cell? w _ (hc j hj).1) hq
    exact ⟨(World.cell?_of_block hg).trans (hc j hj).1, (World.cell?_of_block hg).trans (hc j hj).2.1, (World.cell?_of_block hg).trans (hc j hj).2.2⟩
theorem nameQ_keep {Q Q' : Nat → Prop} {w w' : World} (hw : ∀ k, k < w.heap.size → Q k → w'.heap[k]? = w.heap[k]?) (hQ : ∀ k, Q k → Q' k) {na : Option Addr} {nc : Nat} {l : List ByteArray} (h : NameL w na nc l ∧ AQ Q na l.length) : NameL w' na nc l ∧ AQ Q' na l.length := by
  obtain ⟨h1, q1⟩ := h
  refine ⟨⟨h1.1, h1.2.1, ?_⟩, q1.imp id (fun ⟨a, ea, hq⟩ => ⟨a, ea, hQ _ hq⟩)⟩
  rcases h1.2.2 with e | ⟨g, off, ea, hc⟩
  · exact .inl e
  · refine .inr ⟨g, off, ea, fun j hj => ?_⟩
    have hg : w'.heap[g]? = w.heap[g]? := by
      rcases q1 with e | ⟨a, ea', hq⟩
      · omega
      · rw [ea] at ea'
        cases ea'
        exact hw g (World.block_lt_of_cell? w _ (hc j hj)) hq
    exact (World.cell?_of_block hg).trans (hc j hj)
theorem Up.frw' {w w' : World} (h : Up w w') : Fr (fun _ => False) w w' := ⟨h.os, h.tape, h.output, h.size, fun k hk _ => h.block k hk⟩
/-- A copy, at the world that the walk shows. -/
theorem pq_make {N : Nat} {w6 w7 w8 : World} {B : Nat} {x4 x5 x6 : Value} {p : PC N} {co ka na : Option Addr} {cc kc nc : Nat} (hB : B < w6.heap.size) (hC : CodeL w6 co cc p.code ∧ AQ (fun b => B + 1 ≤ b) co p.code.length) (F7 : Fr (fun _ => False) (w6.setCell ⟨B, 4, none⟩ x4) w7)
    (hK : RowD w7 (DatQ (fun k => (w6.setCell ⟨B, 4, none⟩ x4).heap.size ≤ k) w7 N) (.slice ka p.ks.length kc) p.ks) (hV : VQ (fun k => (w6.setCell ⟨B, 4, none⟩ x4).heap.size ≤ k) (.slice ka p.ks.length kc) p.ks.length) (F8 : Fr (fun _ => False) (w7.setCell ⟨B, 5, none⟩ x5) w8) (hN : NameL w8 na nc p.ns ∧ AQ (fun b => (w7.setCell ⟨B, 5, none⟩ x5).heap.size ≤ b) na p.ns.length) :
    PQ (fun b => B ≤ b) (w8.setCell ⟨B, 6, none⟩ x6) p [.string p.nm, .int .i64 p.args, .int .i64 p.free, .bool p.rest, .slice co p.code.length cc, .slice ka p.ks.length kc, .slice na p.ns.length nc] := by
  have s6 : (w6.setCell ⟨B, 4, none⟩ x4).heap.size = w6.heap.size := by simp [World.setCell]
  have s7 : (w7.setCell ⟨B, 5, none⟩ x5).heap.size = w7.heap.size := by simp [World.setCell]
  have s8 : (w8.setCell ⟨B, 6, none⟩ x6).heap.size = w8.heap.size := by simp [World.setCell]
  have h7 := F7.size
  have h8 := F8.size
  rw [s6] at hK hV h7
  rw [s7] at hN h8
  have k8 : ∀ k, k < w8.heap.size → k ≠ B → (w8.setCell ⟨B, 6, none⟩ x6).heap[k]? = w8.heap[k]? := fun k _ hk => heap_setCell_other _ _ _ _ hk
  have k7 : ∀ k, k < w7.heap.size → k ≠ B → (w8.setCell ⟨B, 6, none⟩ x6).heap[k]? = w7.heap[k]? := fun k hl hk => by
    rw [k8 k (by omega) hk, F8.block k (by omega) (fun e => e), heap_setCell_other _ _ _ _ hk]
  have k6 : ∀ k, k < w6.heap.size → k ≠ B → (w8.setCell ⟨B, 6, none⟩ x6).heap[k]? = w6.heap[k]? := fun k hl hk => by
    rw [k7 k (by omega) hk, F7.block k (by omega) (fun e => e), heap_setCell_other _ _ _ _ hk]
  refine ⟨co, cc, ka, kc, na, nc, rfl, codeQ_keep (fun k hl hq => k6 k hl (by omega)) (fun k hq => by omega) hC, ⟨hK.blk hV (fun k hl hq => k7 k hl (by omega)) (fun _ _ h => h.keep (fun k hl hq => k7 k hl (by omega)) (fun k _ hq => by omega)), ?_⟩, nameQ_keep (fun k hl hq => k8 k hl (by omega)) (fun k hq => by omega) hN⟩
  rcases hV with e | ⟨a, l, c, ea, hq⟩
  · exact .inl e
  · exact .inr ⟨a, l, c, ea, by omega⟩
theorem PBx.s4 {w : World} {B : Nat} {c0 c1 c2 c3 c4 c5 c6 : Value} (h : PBx w B c0 c1 c2 c3 c4 c5 c6) (v : Value) : PBx (w.setCell ⟨B, 4, none⟩ v) B c0 c1 c2 c3 v c5 c6 := (heap_setCell_same w B 4 _ _ v h).trans rfl
theorem PBx.s5 {w : World} {B : Nat} {c0 c1 c2 c3 c4 c5 c6 : Value} (h : PBx w B c0 c1 c2 c3 c4 c5 c6) (v : Value) : PBx (w.setCell ⟨B, 5, none⟩ v) B c0 c1 c2 c3 c4 v c6 := (heap_setCell_same w B 5 _ _ v h).trans rfl
theorem PBx.s6 {w : World} {B : Nat} {c0 c1 c2 c3 c4 c5 c6 : Value} (h : PBx w B c0 c1 c2 c3 c4 c5 c6) (v : Value) : PBx (w.setCell ⟨B, 6, none⟩ v) B c0 c1 c2 c3 c4 c5 v := (heap_setCell_same w B 6 _ _ v h).trans rfl
theorem PBx.lt {w : World} {B : Nat} {c0 c1 c2 c3 c4 c5 c6 : Value} (h : PBx w B c0 c1 c2 c3 c4 c5 c6) : B < w.heap.size := (Array.getElem?_eq_some_iff.1 h).1
theorem hcells7s (w : World) (b i : Nat) (x : Value) (c0 c1 c2 c3 c4 c5 c6 : Value) (E : TypeId) : ∀ j u, [c0, c1, c2, c3, c4, c5, c6][j]? = some u → ((w.setCell ⟨b, i, none⟩ x).alloc (.cells #[c0, c1, c2, c3, c4, c5, c6] E)).cell? ((⟨w.heap.size, 0, none⟩ : Addr).add j) = some u := by
  have e : (w.setCell ⟨b, i, none⟩ x).heap.size = w.heap.size := by simp [World.setCell]
  rw [← e]
  exact hcells7 _ _ _ _ _ _ _ _ _
theorem CPP.step {N : Nat} {w : World} {ps : List (PC N)} {k : Nat} {v : Value} {xs : List Value} {wr w8 w9 : World} {B : Nat} {c : Value} {d0 d1 d2 d3 d4 d5 d6 : Value} {o : Obj} {g cap : Nat} (hA : CPP w ps k v xs wr) (hk : k < ps.length) (F8 : Fr (fun _ => False) wr (w8.setCell ⟨B, 6, none⟩ c)) (hd : PQ (fun b => wr.heap.size ≤ b) (w8.setCell ⟨B, 6, none⟩ c) ps[k] [d0, d1, d2, d3, d4, d5, d6])
    (hown : w9.ownsRow w.heap.size 48 7 (.slice (some ⟨g, 0, none⟩) (k + 1) cap) (k + 1) (xs ++ [d0, d1, d2, d3, d4, d5, d6])) (hgrow : ((w8.setCell ⟨B, 6, none⟩ c).alloc o).grownBy w9 v.ownBlock) (hat : v.ownBlock = some g ∨ g = w8.heap.size + 1) :
    CPP w ps (k + 1) (.slice (some ⟨g, 0, none⟩) (k + 1) cap) (xs ++ [d0, d1, d2, d3, d4, d5, d6]) w9 := by
  have s8 : (w8.setCell ⟨B, 6, none⟩ c).heap.size = w8.heap.size := by simp [World.setCell]
  exact hA.next hk F8 hd hown hgrow (by rw [s8]; exact hat)
/-- What CopyProtos comes to. -/
def CPE {N : Nat} (w : World) (ps : List (PC N)) (e : Ending) (w' : World) : Prop := ∃ v, e = .returned v ∧ RowD w' (PCell w') v ps ∧ Fr (fun _ => False) w w'

set_option maxHeartbeats 4000000 in
set_option maxRecDepth 100000 in
theorem copyP_any {N : Nat} (w : World) (ps : List (PC N)) (v : Value) (hr : RowD w (PCellN w) v ps) (hb : ∀ p, p ∈ ps → p.code.length ≤ 10000000 ∧ p.ns.length ≤ 10000000 ∧ (p.ks.map (bk N)).sum ≤ 10000000) (h3 : ps.length ≤ 10000000) :
    Calls Try.prog 9 #[v] w fun e w' => CPE w ps e w' := by
  obtain ⟨ao, cap, rfl⟩ := hr.shape
  have hIl : ps.length ≤ cap ∧ cap ≤ 9223372036854775807 := by
    obtain ⟨ao', cap', e, h1, h2, -⟩ := hr
    cases e
    exact ⟨h1, h2⟩
  obtain ⟨iP, hiP, zP0, zP1, zP2⟩ := info_parts infoPr
  obtain ⟨iI, hiI, zI0, zI1, zI2⟩ := info_parts infoIn
  obtain ⟨iS, hiS, zS0, zS1, zS2⟩ := info_parts infoSt
  have HR := hide hr
  have HBD := hide hb
  have HI0 : Hid (CPP w ps 0 (.slice none 0 0) [] w) := hide ⟨Fr.refl _ w, World.ownsRow_nil _ _ _ _, fun j _ hj => by omega⟩
  clear hr hb
  go_enter Try.func9, Try.ntmps9
  go_wp2
  go_loopw [3, 4] (fun a3 a4 wr => ∃ (k : Nat) (xs : List Value), k ≤ ps.length ∧ a4 = .int .i64 (k : Int) ∧ CPP w ps k a3 xs wr) (fun _ a4 _ => ps.length - (intOf a4).toNat)
  case atStart => exact ⟨0, [], Nat.zero_le _, rfl, HI0.out⟩
  case round =>
    obtain ⟨k, xs, hk, rfl, hA⟩ := hrel
    obtain ⟨aoV, capV, eV, -, -, -⟩ := own_shape hA.own
    subst eV
    by_cases hlt : k < ps.length
    · obtain ⟨g, off, rfl, co, cc, ka, kc, na, nc, ⟨hco, hks, hns⟩, hn1, hn2, c0, c1, c2, c3, c4, c5, c6⟩ := proto_cellsN HR.out hA.fr.upw' hlt
      have hbd := HBD.out _ (List.getElem_mem hlt)
      have hsz := hA.fr.size
      have hkI : (k : Int) < (ps.length : Int) := by omega
      have HST := hide (fun (w8 w9 : World) (B : Nat) (c : Value) (d0 d1 d2 d3 d4 d5 d6 : Value) (o : Obj) (g cap : Nat) (F8 : Fr (fun _ => False) wr (w8.setCell ⟨B, 6, none⟩ c)) (hd : PQ (fun b => wr.heap.size ≤ b) (w8.setCell ⟨B, 6, none⟩ c) ps[k] [d0, d1, d2, d3, d4, d5, d6]) (hown : w9.ownsRow w.heap.size 48 7 (.slice (some ⟨g, 0, none⟩) (k + 1) cap) (k + 1) (xs ++ [d0, d1, d2, d3, d4, d5, d6])) (hgrow : ((w8.setCell ⟨B, 6, none⟩ c).alloc o).grownBy w9 (Value.slice aoV k capV).ownBlock) (hat : (Value.slice aoV k capV).ownBlock = some g ∨ g = w8.heap.size + 1) => hA.step hlt F8 hd hown hgrow hat)
      generalize ps[k] = p at *
      have hb1 := hbd.1
      have hb2 := hbd.2.1
      have hu := hA.fr.upw'
      have HC := hide (hco.up hu)
      have HN := hide (hns.up hu)
      have HKC := hide (fun (W : World) (hf : Fr (fun _ => False) wr W) => copyAll_all N p.ks _ W (hks.upD (up_new hu hf)) hbd.2.2)
      have HA := hide hA
      have hN1 : co = none → p.code.length = 0 ∧ cc = 0 := fun e => ⟨by have := hco.1; have := hn1 e; omega, hn1 e⟩
      have hN2 : na = none → p.ns.length = 0 ∧ nc = 0 := fun e => ⟨by have := hns.1; have := hn2 e; omega, hn2 e⟩
      have HN1 := hide hN1
      have HN2 := hide hN2
      have hB0 : Hid (PBx (wr.alloc (.cells #[.string p.nm, .int .i64 p.args, .int .i64 p.free, .bool p.rest, .slice co p.code.length cc, .slice ka p.ks.length kc, .slice na p.ns.length nc] 48)) wr.heap.size (.string p.nm) (.int .i64 p.args) (.int .i64 p.free) (.bool p.rest) (.slice co p.code.length cc) (.slice ka p.ks.length kc) (.slice na p.ns.length nc)) := hide (heap_alloc_new wr _)
      clear hA hco hks hns hn1 hn2 hN1 hN2 hu hbd
      go_wp2_with (first
        | (at_builtin; refine wpList_cpy rfl _ _ 44 rfl 50 iI _ 3 24 Try.underlying44 hiI zI0 zI1 zI2 rfl (by decide) rfl co p.code.length cc rfl HN1.out (cI p.code) (cI_len _) ((HC.out.up ((Fr.refl _ _).alloc _).upw').news) (cI_one _) (by unfold maxLen; omega) (by omega) ?_; intro v6 w6 own6 F6; obtain ⟨co6, cc6, e6, m6, n6, o6⟩ := own_shape own6; subst e6; have B6 := (hB0.out.fr F6); have z6 : w6.frozen? ⟨wr.heap.size, 4, none⟩ = false := frozen_of_row _ _ _ _ _ B6; have y6 := B6.k4; have S6 := B6.s4 (.slice co6 p.code.length cc6); have q60 := S6.k0; have q61 := S6.k1; have q62 := S6.k2; have q63 := S6.k3; have q64 := S6.k4; have q65 := S6.k5; have q66 := S6.k6; have HF6 : Hid (Fr (fun _ => False) wr (w6.setCell ⟨wr.heap.size, 4, none⟩ (.slice co6 p.code.length cc6))) := hide ((((Fr.refl _ _).alloc _).trans F6 (fun _ _ e => e)).setCell (fun e => absurd e (Nat.lt_irrefl _)) _ _); have HX6 := hide (codeL_of m6 n6 o6); have HS6 := hide S6; have HL6 := hide B6.lt; clear own6 o6 F6 B6 S6)
        | (go_at_call 20; refine (HKC.out _ HF6.out).mono ?_; rintro e7 w7 ⟨v7, rfl, hr7, hv7, U7⟩; obtain ⟨ka7, kc7, ev7⟩ := hr7.shape; subst ev7; have B7 := HS6.out.fr (Up.frw' U7); have z7 : w7.frozen? ⟨wr.heap.size, 5, none⟩ = false := frozen_of_row _ _ _ _ _ B7; have y7 := B7.k5; have S7 := B7.s5 (.slice ka7 p.ks.length kc7); have q70 := S7.k0; have q71 := S7.k1; have q72 := S7.k2; have q73 := S7.k3; have q74 := S7.k4; have q75 := S7.k5; have q76 := S7.k6; have HF7 : Hid (Fr (fun _ => False) wr (w7.setCell ⟨wr.heap.size, 5, none⟩ (.slice ka7 p.ks.length kc7))) := hide ((HF6.out.trans (Up.frw' U7) (fun _ _ e => e)).setCell (fun e => absurd e (Nat.lt_irrefl _)) _ _); have HG7 := hide (Up.frw' U7); have HR7 := hide hr7; have HV7 := hide hv7; have HS7 := hide S7; clear U7 hr7 hv7 B7 S7)
        | (at_builtin; refine wpList_cpy rfl _ _ 46 rfl 9 iS _ 1 16 Try.underlying46 hiS zS0 zS1 zS2 rfl (by decide) rfl na p.ns.length nc rfl HN2.out (cN p.ns) (by simp [cN]) ((HN.out.up HF7.out.upw').news) (cN_one _) (by unfold maxLen; omega) (by omega) ?_; intro v8 w8 own8 F8; obtain ⟨na8, nc8, e8, m8, n8, o8⟩ := own_shape own8; subst e8; have B8 := HS7.out.fr F8; have z8 : w8.frozen? ⟨wr.heap.size, 6, none⟩ = false := frozen_of_row _ _ _ _ _ B8; have y8 := B8.k6; have S8 := B8.s6 (.slice na8 p.ns.length nc8); have q80 := S8.k0; have q81 := S8.k1; have q82 := S8.k2; have q83 := S8.k3; have q84 := S8.k4; have q85 := S8.k5; have q86 := S8.k6; have HF8 : Hid (Fr (fun _ => False) wr (w8.setCell ⟨wr.heap.size, 6, none⟩ (.slice na8 p.ns.length nc8))) := hide ((HF7.out.trans F8 (fun _ _ e => e)).setCell (fun e => absurd e (Nat.lt_irrefl _)) _ _); have HPQ := hide (pq_make (x6 := .slice na8 p.ns.length nc8) HL6.out (by simpa using HX6.out) HG7.out HR7.out HV7.out F8 (nameL_of m8 n8 o8)); have HR8 := hide (ownsRow_blk HA.out.own (w' := w8.setCell ⟨wr.heap.size, 6, none⟩ (.slice na8 p.ns.length nc8)) (fun g c hg => (HF8.out.block g (Array.getElem?_eq_some_iff.1 hg).1 (fun e => e)).trans hg)); have HZ8 : Hid (wr.heap.size ≤ w8.heap.size) := (by have h8 := HF8.out.size; have ss8 : (w8.setCell ⟨wr.heap.size, 6, none⟩ (.slice na8 p.ns.length nc8)).heap.size = w8.heap.size := (by simp [World.setCell]); rw [ss8] at h8; exact h8); clear own8 o8 F8 B8 S8)
        | (at_builtin; refine wpList_append_lies _ rfl _ _ 22 rfl w.heap.size 48 iP _ 7 112 Try.underlying22 hiP zP0 zP1 zP2 rfl (by decide) _ k xs rfl (HR8.out.alloc _) ⟨w8.heap.size, 0, none⟩ 1 1 [.string p.nm, .int .i64 p.args, .int .i64 p.free, .bool p.rest, .slice co6 p.code.length cc6, .slice ka7 p.ks.length kc7, .slice na8 p.ns.length nc8] rfl rfl (hcells7s w8 _ _ _ _ _ _ _ _ _ _ _) (by intro u hu; simp at hu; rcases hu with rfl | rfl | rfl | rfl | rfl | rfl | rfl <;> rfl) (by decide) (by unfold maxLen; omega) (by omega) (by have h8 := HZ8.out; simp; omega) (w8.heap.size + 1) (by simp) ?_; intro g9 cap9 w9 hown9 hgrow9 hat9 _; have HA9 := hide (HST.out _ _ _ _ _ _ _ _ _ _ _ _ _ _ HF8.out HPQ.out hown9 hgrow9 hat9); clear hown9 hgrow9 hat9))
      refine ⟨⟨k + 1, _, by omega, by go_num, HA9.out⟩, ?_⟩
      simp [intOf]
      omega
    · have e : k = ps.length := by omega
      subst e
      have HF := hide hA.fin
      have hkI : ¬ ((ps.length : Int) < (ps.length : Int)) := by omega
      clear hA hlt hk
      go_wp2
      go_ret
      exact ⟨_, rfl, HF.out.1, HF.out.2⟩

end Go.Proofs.Ytilcigjhogcjkaa
