/-
  What is proved here: the rows of package show's teller, and what is still to be told of them; show's begin.
-/
import Derived.Test.YtfplplobhmacoaaGreatDoorSPut2
import Derived.Deep.AppendLies
import Derived.Deep.RegionLaw
namespace Go.Proofs.YtfplplobhmacoaaGreatDoor
open Go Go.RowKit

theorem infoRow : (Tryz.prog.info? 80).map (fun i => (i.zero, i.size, i.bytes)) = some (some (.agg #[.int .i64 0, .string ⟨#[]⟩, .slice none 0 0, .slice none 0 0, .string ⟨#[]⟩]), 5, 88) := by kernel_rfl

/-- A row that is told in part. -/
structure RowP where
  h : Nat
  how : Bool
  gap : ByteArray
  left : List (Tr h)
  rest : List (Tr h)
  fin : ByteArray

def howI (b : Bool) : Int := if b then 1 else 0

/-- How it lies in five cells. -/
def RowC (w0 : World) (ρ : RowP) (cs : List Value) : Prop :=
  ∃ lv rv, cs = [.int .i64 (howI ρ.how), .string ρ.gap, lv, rv, .string ρ.fin] ∧ RowD w0 (DatC w0 ρ.h) lv ρ.left ∧ RowD w0 (DatC w0 ρ.h) rv ρ.rest
def RowsC (w0 : World) : List RowP → List Value → Prop
  | [], xs => xs = []
  | ρ :: σ, xs => ∃ cs ys, xs = cs ++ ys ∧ RowC w0 ρ cs ∧ RowsC w0 σ ys

theorem RowC.len {w0 : World} {ρ : RowP} {cs : List Value} (h : RowC w0 ρ cs) : cs.length = 5 := by
  obtain ⟨lv, rv, e, _⟩ := h
  rw [e]; rfl
theorem RowsC.len {w0 : World} : ∀ {σ : List RowP} {xs : List Value}, RowsC w0 σ xs → xs.length = σ.length * 5
  | [], xs, h => by simp [RowsC] at h; simp [h]
  | ρ :: σ, xs, h => by
    obtain ⟨cs, ys, rfl, h1, h2⟩ := h
    rw [List.length_append, h1.len, RowsC.len h2, List.length_cons]
    omega
theorem RowsC.snoc {w0 : World} {ρ : RowP} {cs : List Value} (hc : RowC w0 ρ cs) : ∀ {σ : List RowP} {xs : List Value}, RowsC w0 σ xs → RowsC w0 (σ ++ [ρ]) (xs ++ cs)
  | [], xs, h => by
    simp only [RowsC] at h
    subst h
    exact ⟨cs, [], by simp, hc, rfl⟩
  | τ :: σ, xs, h => by
    obtain ⟨cs', ys, rfl, h1, h2⟩ := h
    exact ⟨cs', ys ++ cs, by simp, h1, RowsC.snoc hc h2⟩
theorem RowsC.last {w0 : World} {ρ : RowP} : ∀ {σ : List RowP} {xs : List Value}, RowsC w0 (σ ++ [ρ]) xs → ∃ ys cs, xs = ys ++ cs ∧ RowsC w0 σ ys ∧ RowC w0 ρ cs
  | [], xs, h => by
    obtain ⟨cs, ys, rfl, h1, h2⟩ := h
    simp only [RowsC] at h2
    subst h2
    exact ⟨[], cs, by simp, rfl, h1⟩
  | τ :: σ, xs, h => by
    obtain ⟨cs', ys, rfl, h1, h2⟩ := h
    obtain ⟨zs, cs, rfl, h3, h4⟩ := RowsC.last h2
    exact ⟨cs' ++ zs, cs, by simp, ⟨cs', zs, rfl, h1, h3⟩, h4⟩

/-- What is still to be told of a row. -/
noncomputable def pendR (ρ : RowP) : List UInt8 := its (wr ρ.h ρ.how) ρ.gap.data.toList ρ.left ++ dotW (wr ρ.h ρ.how) ρ.rest ++ ρ.fin.data.toList
noncomputable def pendA (σ : List RowP) : List UInt8 := σ.reverse.flatMap pendR
theorem pendA_snoc (σ : List RowP) (ρ : RowP) : pendA (σ ++ [ρ]) = pendR ρ ++ pendA σ := by simp [pendA]
/-- How much there is of it. -/
def wtR (ρ : RowP) : Nat := 1 + (ρ.left.map (bk ρ.h)).sum + (ρ.rest.map (bk ρ.h)).sum
def wtA (σ : List RowP) : Nat := (σ.map wtR).sum
theorem wtA_snoc (σ : List RowP) (ρ : RowP) : wtA (σ ++ [ρ]) = wtA σ + wtR ρ := by simp [wtA]
theorem wtA_len (σ : List RowP) : σ.length ≤ wtA σ := by
  induction σ with
  | nil => simp
  | cons ρ σ ih => simp only [wtA, List.map_cons, List.sum_cons, List.length_cons, wtR] at *; omega

/-- A teller at work: what lay in w0 is as it was. -/
structure TS (w0 : World) (tb : Nat) (out : List UInt8) (σ : List RowP) (w : World) : Prop where
  up : Up w0 w
  st : ∃ rv xs, TellAt w0.heap.size tb out rv w ∧ w.ownsRow w0.heap.size 80 5 rv σ.length xs ∧ RowsC w0 σ xs

theorem TellAt.block {B tb : Nat} {out : List UInt8} {r : Value} {w : World} (h : TellAt B tb out r w) : ∃ c, w.heap[tb]? = some (.cells c 58 (0, 0)) := by
  obtain ⟨_, p, v, h1, _⟩ := h
  exact ⟨_, h1⟩
theorem ownsRow_kp {B tb : Nat} {w w' : World} {v : Value} {n : Nat} {xs : List Value} (h : w.ownsRow B 80 5 v n xs) (k : Kp tb w w') (ht : ∃ c, w.heap[tb]? = some (.cells c 58 (0, 0))) : w'.ownsRow B 80 5 v n xs := by
  refine ⟨h.1, ?_⟩
  rcases h.2 with e | ⟨g, cap, cur, e1, e2, e3, e4⟩
  · exact .inl e
  · refine .inr ⟨g, cap, cur, e1, e2, k.2 _ _ _ _ (fun e => ?_) (by decide) e3, e4⟩
    obtain ⟨c, hc⟩ := ht
    rw [e, hc] at e3
    simp at e3
theorem ownsRow_blk {B E s : Nat} {w w' : World} {v : Value} {n : Nat} {xs : List Value} (h : w.ownsRow B E s v n xs) (k : ∀ (g : Nat) (c : Array Value), w.heap[g]? = some (.cells c E (0, 0)) → w'.heap[g]? = some (.cells c E (0, 0))) : w'.ownsRow B E s v n xs := by
  refine ⟨h.1, ?_⟩
  rcases h.2 with e | ⟨g, cap, cur, e1, e2, e3, e4⟩
  · exact .inl e
  · exact .inr ⟨g, cap, cur, e1, e2, k _ _ e3, e4⟩
theorem up_drew (w : World) : Up w w.drew := Below.drew (Below.refl _ w)
theorem up_drewN (w : World) (q : Nat) : Up w (w.drewN q) := ⟨rfl, rfl, rfl, Nat.le_refl _, fun _ _ => rfl⟩
theorem Up.old {w w' : World} (u : Up w w') {g : Nat} {o : Obj} (h : w.heap[g]? = some o) : w'.heap[g]? = some o :=
  (u.block g (Array.getElem?_eq_some_iff.1 h).1).trans h
/-- Nothing that was there has turned. -/
theorem TS.more {w0 : World} {tb : Nat} {out : List UInt8} {σ : List RowP} {w w' : World} (h : TS w0 tb out σ w) (u : Up w w') : TS w0 tb out σ w' := by
  obtain ⟨h0, rv, xs, h1, h2, h3⟩ := h
  exact ⟨h0.tr u, rv, xs, h1.keep (fun k c e _ h => u.old h), ownsRow_blk h2 (fun g c h => u.old h), h3⟩
theorem TS.lt {w0 : World} {tb : Nat} {out : List UInt8} {σ : List RowP} {w : World} (h : TS w0 tb out σ w) : tb < w.heap.size := by
  obtain ⟨h0, rv, xs, h1, h2, h3⟩ := h
  exact h1.lt

/-- show's put, of a teller at work. -/
theorem put_ts (w0 : World) (tb : Nat) (out : List UInt8) (σ : List RowP) (l : List ByteArray) (v : Value) (w : World) (h : TS w0 tb out σ w) (hp : PcsAt w v l) (hlen : out.length + (flat l).length ≤ 140737488355328) (hl : l.length ≤ 1000) :
    Calls Tryz.prog 38 #[.pointer (some ⟨tb, 0, none⟩), v] w fun e w' => e = .returned (.tuple #[]) ∧ TS w0 tb (out ++ flat l) σ w' ∧ Below w0.heap.size w w' ∧ Kp tb w w' := by
  obtain ⟨h0, rv, xs, h1, h2, h3⟩ := h
  refine (put_any _ tb out rv l v w h1 hp hlen h0.size hl).mono ?_
  rintro e w' ⟨rfl, hT, hb, hk⟩
  exact ⟨rfl, ⟨h0.trans hb, rv, xs, hT, ownsRow_kp h2 hk h1.block, h3⟩, hb, hk⟩

theorem hcells5 (w : World) (c0 c1 c2 c3 c4 : Value) (E : TypeId) : ∀ j u, [c0, c1, c2, c3, c4][j]? = some u → (w.alloc (.cells #[c0, c1, c2, c3, c4] E)).cell? ((⟨w.heap.size, 0, none⟩ : Addr).add j) = some u := by
  intro j u hj
  rw [Addr.add_lit, Nat.zero_add, cell_of_row _ _ j _ _ _ (heap_alloc_new w _)]
  simpa using hj
theorem cells5 {w1 : World} {g : Nat} {c0 c1 c2 c3 c4 : Value} {E : TypeId} {f : Nat × Nat} (h : w1.heap[g]? = some (.cells #[c0, c1, c2, c3, c4] E f)) : w1.cell? ⟨g, 0, none⟩ = some c0 ∧ w1.cell? ⟨g, 1, none⟩ = some c1 ∧ w1.cell? ⟨g, 2, none⟩ = some c2 ∧ w1.cell? ⟨g, 3, none⟩ = some c3 ∧ w1.cell? ⟨g, 4, none⟩ = some c4 :=
  ⟨cell_of_row w1 g 0 _ E f h, cell_of_row w1 g 1 _ E f h, cell_of_row w1 g 2 _ E f h, cell_of_row w1 g 3 _ E f h, cell_of_row w1 g 4 _ E f h⟩

/-- A row more lies in the teller. -/
theorem TS.push {w0 : World} {tb : Nat} {out : List UInt8} {σ : List RowP} {ρ : RowP} {w w2 : World} {rv v' : Value} {xs cs : List Value} {n' : Nat} (h0 : Up w0 w) (h1 : TellAt w0.heap.size tb out rv w) (h2 : w.ownsRow w0.heap.size 80 5 rv σ.length xs) (h3 : RowsC w0 σ xs) (hc : RowC w0 ρ cs)
    (hown' : w2.ownsRow w0.heap.size 80 5 v' n' (xs ++ cs)) (hn : n' = σ.length + 1) (hgrow : w.grownBy w2 rv.ownBlock) :
    w2.cell? ⟨tb, 2, none⟩ = some rv ∧ w2.frozen? ⟨tb, 2, none⟩ = false ∧ TS w0 tb out (σ ++ [ρ]) (w2.setCell ⟨tb, 2, none⟩ v') := by
  obtain ⟨hB, p, v, k1, k2, k3⟩ := h1
  have hlt : tb < w.heap.size := (Array.getElem?_eq_some_iff.1 k1).1
  have hne : rv.ownBlock ≠ some tb := fun e => by
    rcases h2.2 with ⟨e0, _⟩ | ⟨g, cap, cur, e1, e2, e3, _⟩
    · rw [e0] at e; cases e
    · rw [e1] at e
      have eg : g = tb := by simpa [Value.ownBlock] using e
      rw [eg, k1] at e3
      simp at e3
  have kt : w2.heap[tb]? = some (.cells #[p, v, rv] 58 (0, 0)) := (hgrow.block tb hlt (fun e => hne e.symm)).trans k1
  have ku : ∀ (g : Nat) (c : Array Value), w.heap[g]? = some (.cells c 5 (0, 0)) → w2.heap[g]? = some (.cells c 5 (0, 0)) := fun g c h => (hgrow.block g (Array.getElem?_eq_some_iff.1 h).1 (fun e => by
    rcases h2.2 with ⟨e0, _⟩ | ⟨g', cap, cur, e1, e2, e3, _⟩
    · rw [e0] at e; cases e
    · rw [e1] at e
      have eg : g = g' := by simpa [Value.ownBlock] using e
      rw [← eg, h] at e3
      simp at e3)).trans h
  have ne2 : ∀ {g : Nat} {c : Array Value} {E : TypeId}, E ≠ 58 → w2.heap[g]? = some (.cells c E (0, 0)) → g ≠ tb := fun hE hg e => by
    rw [e, kt] at hg
    simp at hg
    exact hE hg.2.symm
  have kset : ∀ {E : TypeId} (g : Nat) (c : Array Value), E ≠ 58 → w2.heap[g]? = some (.cells c E (0, 0)) → (w2.setCell ⟨tb, 2, none⟩ v').heap[g]? = some (.cells c E (0, 0)) := fun g c hE hg => (heap_setCell_other _ _ _ _ (ne2 hE hg)).trans hg
  refine ⟨cell_of_row w2 tb 2 _ _ _ kt, frozen_of_row w2 tb 2 _ _ kt, ⟨?_, v', xs ++ cs, ⟨hB, p, v, heap_setCell_same w2 tb 2 _ _ _ kt, k2, ?_⟩, ?_, h3.snoc hc⟩⟩
  · exact (h0.grown hgrow h0.size (fun k hk => (h2.lt k hk).1)).setCell (p := ⟨tb, 2, none⟩) hB _
  · exact ownsRow_blk (ownsRow_blk k3 ku) (fun g c hg => kset g c (by decide) hg)
  · rw [List.length_append, List.length_singleton, ← hn]
    exact ownsRow_blk hown' (fun g c hg => kset g c (by decide) hg)

set_option maxHeartbeats 4000000 in
set_option maxRecDepth 100000 in
theorem begin_any (w0 : World) (tb : Nat) (out : List UInt8) (σ : List RowP) (ρ : RowP) (l : List ByteArray) (v : Value) (a0 a1 a2 a3 a4 : Value) (w : World) (h : TS w0 tb out σ w) (hp : PcsAt w v l) (hlen : out.length + (flat l).length ≤ 140737488355328) (hl : l.length ≤ 1000) (hc : RowC w0 ρ [a0, a1, a2, a3, a4]) (hσ : σ.length ≤ 1000000000) :
    Calls Tryz.prog 44 #[.pointer (some ⟨tb, 0, none⟩), .agg #[a0, a1, a2, a3, a4], v] w fun e w' => e = .returned (.tuple #[]) ∧ TS w0 tb (out ++ flat l) (σ ++ [ρ]) w' := by
  obtain ⟨iR, hiR, hy0, hy1, hy2⟩ := info_parts infoRow
  obtain ⟨ao, cap, rfl, -⟩ := id hp
  obtain ⟨lv, rv0, he, hc2⟩ := id hc
  obtain ⟨aol, capl, rfl⟩ := hc2.1.shape
  obtain ⟨aor, capr, rfl⟩ := hc2.2.shape
  simp at he
  obtain ⟨rfl, rfl, rfl, rfl, rfl⟩ := he
  clear hc2
  generalize howI ρ.how = H at *
  have K := put_ts w0 tb out σ l (.slice ao l.length cap) (w.alloc (.cells #[.int .i64 H, .string ρ.gap, .slice aol ρ.left.length capl, .slice aor ρ.rest.length capr, .string ρ.fin] 80)) (h.more (up_alloc w _)) (hp.kp (tb := tb) ((Kp.refl tb w).alloc _) (by obtain ⟨_, rv, xs, h1, _⟩ := h; exact h1.block)) hlen hl
  have hbx : (w.alloc (.cells #[.int .i64 H, .string ρ.gap, .slice aol ρ.left.length capl, .slice aor ρ.rest.length capr, .string ρ.fin] 80)).heap[w.heap.size]? = some (.cells #[.int .i64 H, .string ρ.gap, .slice aol ρ.left.length capl, .slice aor ρ.rest.length capr, .string ρ.fin] 80 (0, 0)) := heap_alloc_new w _
  have hlt := h.lt
  have HK := hide K
  have HX := hide hbx
  have HC := hide hc
  have HL := hide hlt
  have HS := hide hσ
  clear K hbx hc hlt hlen hl h hp hσ
  go_enter Tryz.func44, Tryz.ntmps44
  go_wp2_with (go_at_call 38; refine HK.out.mono ?_; rintro e w2 ⟨rfl, hT, hb, hk⟩)
  have hbx := hk.2 _ _ _ _ (by have := HL.out; omega) (by decide) HX.out
  obtain ⟨d0, d1, d2, d3, d4⟩ := cells5 hbx
  obtain ⟨hu, rv, xs, h1, h2, h3⟩ := hT
  obtain ⟨aoR, capR, rfl⟩ : ∃ ao cap, rv = .slice ao σ.length cap := by
    rcases h2.2 with ⟨e, e0⟩ | ⟨g, cap, cur, e, _⟩
    · exact ⟨none, 0, by rw [e, e0]⟩
    · exact ⟨_, _, e⟩
  have c0 := h1.rows
  have c1 : (w2.alloc (.cells #[.int .i64 H, .string ρ.gap, .slice aol ρ.left.length capl, .slice aor ρ.rest.length capr, .string ρ.fin] 80)).cell? ⟨tb, 2, none⟩ = some (.slice aoR σ.length capR) := (World.cell?_of_block (w := w2) (heap_alloc_old w2 _ (r := tb) h1.lt)).trans c0
  have hown : (w2.drew.alloc (.cells #[.int .i64 H, .string ρ.gap, .slice aol ρ.left.length capl, .slice aor ρ.rest.length capr, .string ρ.fin] 80)).ownsRow w0.heap.size 80 5 (.slice aoR σ.length capR) σ.length xs := World.ownsRow.alloc (w := w2.drew) h2 _
  have HH := hide (And.intro hu (And.intro h1 (And.intro h2 h3)))
  have hs := hu.size
  clear hbx hb hk hu h1 h2 h3
  go_region_law
    ((refine step_append_lies _ (by rfl) _ _ 56 (by rfl) w0.heap.size 80 iR (.agg #[.int .i64 0, .string ⟨#[]⟩, .slice none 0 0, .slice none 0 0, .string ⟨#[]⟩]) 5 88 Tryz.underlying56 hiR hy0 hy1 hy2 rfl (by decide) (.slice aoR σ.length capR) σ.length xs (by rfl) hown ⟨w2.heap.size, 0, none⟩ 1 1 [.int .i64 H, .string ρ.gap, .slice aol ρ.left.length capl, .slice aor ρ.rest.length capr, .string ρ.fin] (by rfl) rfl (hcells5 w2.drew _ _ _ _ _ _) (fun u hu => by simp at hu; rcases hu with rfl | rfl | rfl | rfl | rfl <;> rfl) (by decide) (by unfold maxLen; have := HS.out; omega) (by have := HS.out; omega) (by simp; omega) (w2.heap.size + 1) (by simp) ?_; intro g9 cap9 w9 hown9 hgrow9 hat9 hlt9; obtain ⟨q1, q2, q3⟩ := TS.push (w := w2.drew.alloc (.cells #[.int .i64 H, .string ρ.gap, .slice aol ρ.left.length capl, .slice aor ρ.rest.length capr, .string ρ.fin] 80)) ((HH.out.1.tr (up_drew w2)).tr (up_alloc _ _)) (HH.out.2.1.drew.alloc _) hown HH.out.2.2.2 HC.out hown9 rfl hgrow9; have HQ := hide q3; clear q3 hown9 hgrow9 hat9 hlt9))
  all_goals (go_wp2; go_end0; exact ⟨rfl, HQ.out⟩)

end Go.Proofs.YtfplplobhmacoaaGreatDoor
