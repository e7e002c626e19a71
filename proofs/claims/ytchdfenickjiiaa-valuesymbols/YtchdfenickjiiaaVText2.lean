/-
  What is proved here: a text is laid, word by word.
-/
import Derived.Test.YtchdfenickjiiaaVTextM
import Derived.Deep.RegionHeld3
import Derived.Deep.CutRange
import Derived.RangeFuncFrom
namespace Go.Proofs.Ytchdfenickjiiaa
open Go Go.RowKit Go.Shelf

attribute [local go_sem] Oper.semAt_some

theorem Tx.turn {w wc w3 : World} {sb hb : Nat} {X : Nat → Prop} {Bp : Nat} {X2 : Nat → Prop} {sz : Nat} {tm : Int} {n2 : Nat} {f2 f3 : Nat → Nat} {st2 : Nat → Bool} {p : Nat} (h : Tx w wc sb hb X Bp X2 sz tm n2 f2 st2 p) (H3 : HeapAt w3 hb X2 sz tm n2 f3 st2) (F3 : Fr X2 wc w3) : Tx w w3 sb hb X Bp X2 sz tm n2 f3 st2 p :=
  ⟨H3, h.G, Fr.trans h.F F3 (fun k hk e => by
    rcases h.G k e with e | e
    · exact e
    · omega), (F3.block _ (Array.getElem?_eq_some_iff.1 h.bs).1 h.nS).trans h.bs, (F3.block _ (Array.getElem?_eq_some_iff.1 h.bp).1 h.nP).trans h.bp, h.nS, h.nP, h.lt⟩

set_option maxRecDepth 100000 in
set_option maxHeartbeats 1000000 in
theorem text_yes (w : World) (sb hb : Nat) (X : Nat → Prop) (sz : Nat) (tm : Int) (n : Nat) (f : Nat → Nat) (st : Nat → Bool) (v : Value) (b off len cap : Nat) (g : Nat → Nat) (h : HeapAt w hb X sz tm n f st) (hS : w.cell? ⟨sb, 0, none⟩ = some (.pointer (some ⟨hb, 0, none⟩))) (hsX : ¬ X sb)
    (hv : BytesV v b off len cap) (hg : ∀ i, i < len → g i < 256) (hb8 : ∀ i, i < len → w.cell? ⟨b, off + i, none⟩ = some (.int .u8 (g i : Int))) (hbX : ¬ X b) (hroom : n + 1 + 0 + (1 + (len + 7) / 8) ≤ sz) :
    Calls Try.prog 17 #[.pointer (some ⟨sb, 0, none⟩), v] w fun e w' => e = .returned (.tuple #[.int .u64 ((4 * n : Nat) : Int), .bool true]) ∧ ∃ X2, HeapAt w' hb X2 sz tm (n + 1 + 0 + (1 + (len + 7) / 8)) (tagF f n (hOf 3 0 (1 + (len + 7) / 8)) (textW g len) (1 + (len + 7) / 8)) (also st n) ∧ Grows w.heap.size X X2 ∧ Fr X w w' := by
  refine (callsIn_wide (n := 4)).1 ?_
  refine callsIn_of_wp_marks Try.func17 rfl trivial ?_ rfl
  simp only [Try.ntmps17, List.size_toArray, List.length_cons, List.length_nil, Nat.reduceAdd, Nat.reduceSub, Array.replicate_succ, Array.replicate_zero, List.push_toArray, List.append_toArray, List.nil_append, List.cons_append]
  refine wpIn_wide.2 ?_
  go_wp2
  have hsl : sb < w.heap.size := World.block_lt_of_cell? _ _ hS
  have hl8 : len ≤ 140737488355328 := by rcases hv with ⟨_, e⟩ | ⟨_, e1, e2⟩ <;> omega
  obtain ⟨ao, cp, rfl⟩ : ∃ ao cp, v = .slice ao len cp := by rcases hv with ⟨e1, e2⟩ | ⟨e1, _⟩; exact ⟨_, _, by rw [e1, e2]⟩; exact ⟨_, _, e1⟩
  obtain ⟨N, hN⟩ : ∃ N, N = 1 + (len + 7) / 8 := ⟨_, rfl⟩
  have KT := fun w1 => textRaws_any len w1 hl8
  rw [← hN] at KT hroom
  have hz := h.good.2.2.2
  have HXl : Hid (∀ k, X k → k < w.heap.size) := hide fun k hk => h.lt hk
  have c0 : (w.alloc (.cells #[.pointer (some ⟨sb, 0, none⟩)] 31)).cell? ⟨w.heap.size, 0, none⟩ = some (.pointer (some ⟨sb, 0, none⟩)) := cell_of_row _ _ _ _ _ _ (heap_alloc_new w _)
  have c1 : (w.alloc (.cells #[.pointer (some ⟨sb, 0, none⟩)] 31)).cell? ⟨sb, 0, none⟩ = some (.pointer (some ⟨hb, 0, none⟩)) := (((Fr.refl (fun _ => False) w).alloc _).cell hsl (fun e => e)).trans hS
  obtain ⟨W0, hW0⟩ : ∃ W0, W0 = w.alloc (.cells #[.pointer (some ⟨sb, 0, none⟩)] 31) := ⟨_, rfl⟩
  have F0 : Fr (fun _ => False) w W0 := by rw [hW0]; exact (Fr.refl _ w).alloc _
  have s0 : W0.heap.size = w.heap.size + 1 := by rw [hW0]; simp
  have b0 : W0.heap[w.heap.size]? = some (.cells #[.pointer (some ⟨sb, 0, none⟩)] 31 (0, 0)) := by rw [hW0]; exact heap_alloc_new w _
  have c0' := cell_of_row W0 w.heap.size 0 _ _ _ b0
  have c1' := (F0.cell (o := 0) hsl (fun e => e)).trans hS
  obtain ⟨p, hp⟩ : ∃ p, p = 4 * n := ⟨_, rfl⟩
  have hpl : p < 18446744073709551616 := by have := h.good.2.2.1; omega
  have HKA : Hid (∀ w1, Fr (fun _ => False) W0 w1 → Calls Try.prog 51 #[.pointer (some ⟨hb, 0, none⟩), .int .i64 3, .int .i64 0, .int .i64 (N : Int)] w1 fun e w2 => e = .returned (.tuple #[.int .u64 (p : Int), .bool true]) ∧ w2.cell? ⟨w.heap.size, 0, none⟩ = some (.pointer (some ⟨sb, 0, none⟩)) ∧ w2.cell? ⟨sb, 0, none⟩ = some (.pointer (some ⟨hb, 0, none⟩)) ∧ (w1.heap[W0.heap.size]? = some (.cells #[.int .u64 0] 22 (0, 0)) → w2.heap[W0.heap.size]? = some (.cells #[.int .u64 0] 22 (0, 0))) ∧ ∃ X2, HeapAt w2 hb X2 sz tm (n + 1 + 0 + N) (laid f n (hOf 3 0 N)) (also st n) ∧ Grows w1.heap.size X X2 ∧ Fr X w1 w2) := hide fun w1 hF => (alloc_yes w1 hb X sz tm n f st 3 0 N ((h.fr F0 (fun _ _ e => e)).fr hF (fun _ _ e => e)) (by omega) (by omega) (by omega) (by omega) hroom).mono fun e w2 he => by
    obtain ⟨h1, X2, h2, h3, h4⟩ := he
    have s1 := hF.size
    rw [← hp] at h1
    refine ⟨h1, ?_, ?_, fun hq => (h4.block _ (Array.getElem?_eq_some_iff.1 hq).1 (fun e => by have := HXl.out _ e; omega)).trans hq, X2, h2, h3, h4⟩
    · exact (h4.cell (by omega) (fun e => by have := HXl.out _ e; omega)).trans ((hF.cell (by omega) (fun e => e)).trans c0')
    · exact (h4.cell (by omega) hsX).trans ((hF.cell (by omega) (fun e => e)).trans c1')
  rw [← hW0] at c0 c1 ⊢
  have HH := hide h
  have HF0 := hide F0
  have Hb0 := hide b0
  have Hs0 := hide s0
  have HN := hide hN
  have HP := hide hp
  have HB8 := hide hb8
  have HG := hide hg
  clear hp hN h hb8 hg c0' c1' F0 b0 hW0 s0
  go_cut [6, 7] from 10 to 20 (fun s6 s7 wc => ∃ Bp X2, s6 = .pointer (some ⟨Bp, 0, none⟩) ∧ s7 = .bool true ∧ Tx w wc sb hb X Bp X2 sz tm (n + 1 + 0 + N) (laid f n (hOf 3 0 N)) (also st n) p)
  case first =>
    go_region_held3 (fun w' => w'.cell? ⟨w.heap.size, 0, none⟩ = some (.pointer (some ⟨sb, 0, none⟩)) ∧ w'.cell? ⟨sb, 0, none⟩ = some (.pointer (some ⟨hb, 0, none⟩))) (go_keep)
      (first
        | (go_at_call 47; refine (KT _).mono ?_; rintro e w1 ⟨rfl, hw⟩; replace hw := hw.symm; subst hw)
        | (go_at_call 51; refine (HKA.out _ ?_).mono ?_; (first | exact (Fr.refl _ W0).drew | exact ((Fr.refl _ W0).drew).alloc _); rintro e w2 ⟨rfl, d0, d1, dp, X2, H2, G2, F2⟩; (first | (have dq := dp (heap_alloc_new W0.drew _); have cp := cell_of_row w2 W0.heap.size 0 _ _ _ dq; have fz := frozen_of_row w2 W0.heap.size 0 _ _ dq; have Hdq := hide dq; have e0 := fun x => (Fr.cell (Fr.setCell (S := fun k => k = W0.heap.size) (Fr.refl _ w2) (g := W0.heap.size) (fun _ => rfl) 0 x) (b := w.heap.size) (o := 0) (World.block_lt_of_cell? _ _ d0) (by have := Hs0.out; omega)).trans d0; have e1 := fun x => (Fr.cell (Fr.setCell (S := fun k => k = W0.heap.size) (Fr.refl _ w2) (g := W0.heap.size) (fun _ => rfl) 0 x) (b := sb) (o := 0) (World.block_lt_of_cell? _ _ d1) (by have := Hs0.out; omega)).trans d1; clear dq dp) | clear dp); have HH2 := hide H2; have HG2 := hide G2; have HF2 := hide F2; clear H2 G2 F2))
    all_goals
      go_wp2_with fail
      go_meet
      all_goals first | exact ⟨_, _, rfl, rfl, Tx.late HF0.out Hs0.out Hb0.out HXl.out HH2.out HG2.out HF2.out⟩ | exact ⟨_, _, rfl, rfl, Tx.early HF0.out Hs0.out Hb0.out HXl.out HH2.out HG2.out HF2.out Hdq.out⟩
  case rest =>
    obtain ⟨Bp, X2, rfl, rfl, hT⟩ := hcut
    clear c0 c1 KT HKA HF0 Hb0 Hs0
    have c0 := cell_of_row wc w.heap.size 0 _ _ _ hT.bs
    have c1 := (hT.F.cell (o := 0) hsl hsX).trans hS
    have c2 := cell_of_row wc Bp 0 _ _ _ hT.bp
    have hsX2 : ¬ X2 sb := fun e => by
      rcases hT.G sb e with e | e
      · exact hsX e
      · omega
    have hq : p / 4 = n := by have := HP.out; omega
    have hp4 : p % 4 = 0 := by have := HP.out; omega
    have hhd : laid f n (hOf 3 0 N) (p / 4) = hOf 3 0 N := by rw [hq, laid_head]
    have KS := setRaw_yes wc.drew hb X2 sz tm (n + 1 + 0 + N) (laid f n (hOf 3 0 N)) (also st n) p 0 len (hT.H.drewN 1) hpl (by omega) (by unfold isPtr; rw [hq, also_new]; simp [hp4]) (by rw [hhd, hRaw_of (by decide) (by decide) (by omega)]; have := HN.out; omega)
    have HKS := hide KS
    have hwl : IntKind.u64.wrap (len : Int) = (len : Int) := by rw [u64w]; omega
    have HT := hide hT
    have hsz3 := hsX2
    clear KS hT hhd hq hp4
    go_wp2
    go_region_held3 (fun w' => w'.cell? ⟨w.heap.size, 0, none⟩ = some (.pointer (some ⟨sb, 0, none⟩)) ∧ w'.cell? ⟨sb, 0, none⟩ = some (.pointer (some ⟨hb, 0, none⟩)) ∧ w'.cell? ⟨Bp, 0, none⟩ = some (.int .u64 (p : Int))) (go_keep)
      ((go_at_call 52; refine HKS.out.mono ?_; rintro e w3 ⟨rfl, H3, F3⟩; have T3 := HT.out.turn H3 (Fr.trans ((Fr.refl _ wc).drew) F3 (fun _ _ e => e)); have d0 := cell_of_row w3 w.heap.size 0 _ _ _ T3.bs; have d1 := (T3.F.cell (o := 0) hsl hsX).trans hS; have d2 := cell_of_row w3 Bp 0 _ _ _ T3.bp; have HT3 := hide T3; clear H3 F3 T3))
    go_wp2_with (go_at_call 53; refine (callsIn_wide.1 (chunk_in Fence.wide 3 trivial rfl ao len cp _)).mono ?_; rintro e w4 ⟨rfl, hw4⟩)
    have T3 := HT3.out
    have hXl3 : ∀ k, X2 k → k < w3.heap.size := fun k hk => T3.H.lt hk
    have hq : p / 4 = n := by have := HP.out; omega
    have hp4 : p % 4 = 0 := by have := HP.out; omega
    have hh0 : laid f n (hOf 3 0 N) (p / 4) = hOf 3 0 N := by rw [hq, laid_head]
    have hNl : N ≤ 1048576 := by omega
    have hI0 : TxI w3 hb X2 sz tm (n + 1 + 0 + N) (tagF f n (hOf 3 0 N) (txtR g len []) (1 + 0)) (also st n) 1 w4 := by
      have hw := hw4
      have e1 := heap_alloc_new w3 (.cells #[.int .i64 1] 3)
      have FA : Fr (fun _ => False) w3 (w3.alloc (.cells #[.int .i64 1] 3)) := (Fr.refl _ _).alloc _
      have FB : Fr (fun _ => False) (w3.alloc (.cells #[.int .i64 1] 3)) w4 := by rw [hw]; exact ((Fr.refl _ _).alloc _).alloc _
      have FC : Fr (fun _ => False) w3 w4 := Fr.trans FA FB (fun _ _ e => e)
      refine ⟨?_, FC.mono (fun _ _ e => e.elim), hXl3, (FB.block _ (by simp) (fun e => e)).trans e1, by rw [hw]; simp⟩
      have := T3.H.fr FC (fun _ _ e => e)
      rw [hh0, hTag_of (by decide) (by decide), hq] at this
      rw [show (1 + 0 : Nat) = 0 + 1 from rfl, ← tagF_succ, tagF_zero]
      exact this
    have hw4s : w4.heap.size = w3.heap.size + 3 := by rw [hw4]; simp
    have k1 : w4.cell? ⟨w3.heap.size + 1, 0, none⟩ = some (.slice ao len cp) := by
      have e1 := heap_alloc_new (w3.alloc (.cells #[.int .i64 1] 3)) (.cells #[.slice ao len cp] 38)
      rw [World.size_alloc] at e1
      rw [hw4]
      exact cell_of_row _ _ 0 _ _ _ ((heap_alloc_old _ _ (w3.heap.size + 1) (by simp)).trans e1)
    have k2 : w4.cell? ⟨w3.heap.size + 1 + 1, 0, none⟩ = some (.int .i64 8) := by
      have e1 := heap_alloc_new ((w3.alloc (.cells #[.int .i64 1] 3)).alloc (.cells #[.slice ao len cp] 38)) (.cells #[.int .i64 8] 3)
      rw [World.size_alloc, World.size_alloc] at e1
      rw [hw4]
      exact cell_of_row _ _ 0 _ _ _ e1
    rw [← hw4]
    have HW4 := hide hw4
    clear hw4 d0 d1 d2 T3
    refine (wpIn_wide (n := 5)).1 ?_
    refine' wpIn_rangeFunc_ownF (F := Fence.wide) rfl (by decide) (gf := 92) (lb := #[.pointer (some ⟨w3.heap.size + 1, 0, none⟩), .pointer (some ⟨w3.heap.size + 1 + 1, 0, none⟩)]) rfl trivial (enters_of Try.func92 (by kernel_rfl) rfl) (chunk_stops Fence.wide 4 trivial rfl (by decide) (w3.heap.size + 1) (w3.heap.size + 1 + 1) b off len cap (.slice ao len cp) hv w4 (by omega) (by omega) k1 k2) (fun h k => ⟨k.1.trans h.1, k.2.trans h.2⟩) ?keepb (Below.refl _ _) (fun _ => rfl) (fun pre W => TxI w3 hb X2 sz tm (n + 1 + 0 + N) (tagF f n (hOf 3 0 N) (txtR g len pre) (1 + pre.length)) (also st n) (1 + pre.length) W) (fun _ _ _ => False) ?own (fun _ _ _ _ _ h _ _ => h) hI0 _ ?assign ?body ?done ?stop
    case keepb =>
      intro W l o o' hl ho hc hwk
      have hll := (Array.getElem?_eq_some_iff.1 ho).1
      exact ⟨World.cell?_of_block (World.putObj_heap_other (fun e => by have e2 : w3.heap.size + 1 = l := e; omega)), World.cell?_of_block (World.putObj_heap_other (fun e => by have e2 : w3.heap.size + 1 + 1 = l := e; omega))⟩
    case own => exact fun pre A B row h hg hr => h.grown hg (by omega) hr
    case assign =>
      intro l x W K hK
      gi_wp2
      exact hK
    case body =>
      intro l pre x W hI hlen
      have T3 := HT3.out
      have s3 := T3.F.size
      have hsx : ¬ X2 w.heap.size := T3.nS
      have ls : w.heap.size < w3.heap.size := (Array.getElem?_eq_some_iff.1 T3.bs).1
      have lp : Bp < w3.heap.size := (Array.getElem?_eq_some_iff.1 T3.bp).1
      have c0 : W.cell? ⟨w.heap.size, 0, none⟩ = some (.pointer (some ⟨sb, 0, none⟩)) := (hI.F.cell ls T3.nS).trans (cell_of_row w3 w.heap.size 0 _ _ _ T3.bs)
      have c1 : W.cell? ⟨sb, 0, none⟩ = some (.pointer (some ⟨hb, 0, none⟩)) := (hI.F.cell (by omega) hsX2).trans ((T3.F.cell (o := 0) hsl hsX).trans hS)
      have c2 : W.cell? ⟨Bp, 0, none⟩ = some (.int .u64 (p : Int)) := (hI.F.cell lp T3.nP).trans (cell_of_row w3 Bp 0 _ _ _ T3.bp)
      have c3 : W.cell? ⟨w3.heap.size, 0, none⟩ = some (.int .i64 ((1 + pre.length : Nat) : Int)) := cell_of_row W _ 0 _ _ _ hI.bi
      obtain ⟨k, hk⟩ : ∃ k, k = 1 + pre.length := ⟨_, rfl⟩
      have hkN : k < N := by have := HN.out; omega
      have hbX2 : b < w.heap.size → ¬ X2 b := fun hl e => by
        rcases T3.G b e with e | e
        · exact hbX e
        · omega
      have KP : Calls Try.prog 54 #[chunkV b off len x] W.drew fun e w' => e = .returned (.int .u64 (wordOf g len x : Int)) ∧ w' = W.drew := packed_any b (off + 8 * x) (clen len x) (clen len x) (fun i => g (8 * x + i)) W.drew (by unfold clen; omega) (Nat.le_refl _) (fun i hi => HG.out _ (by unfold clen at hi; omega)) (fun i hi => by
        have hl : 8 * x + i < len := by unfold clen at hi; omega
        have e := HB8.out _ hl
        have lb := World.block_lt_of_cell? _ _ e
        have lb2 : b < w.heap.size := lb
        rw [Nat.add_assoc]
        exact (hI.F.cell (by omega) (hbX2 lb2)).trans ((T3.F.cell lb2 hbX).trans e))
      have KS := setRaw_yes W.drew hb X2 sz tm (n + 1 + 0 + N) (tagF f n (hOf 3 0 N) (txtR g len pre) (1 + pre.length)) (also st n) p k (wordOf g len x) (hI.H.drewN 1) hpl (wordOf_lt HG.out) (by unfold isPtr; rw [hq, also_new]; simp [hp4]) (by rw [hq, tagF_head, hRaw_of (by decide) (by decide) hNl]; exact hkN)
      rw [hq, tagF_head, hTag_of (by decide) (by decide), hk, Nat.add_zero, txtR_step, ← hk] at KS
      rw [← hk] at c3
      obtain ⟨y, hy⟩ : ∃ y, y = wordOf g len x := ⟨_, rfl⟩
      rw [← hy] at KP KS
      have HKP := hide KP
      have HKS2 := hide KS
      have HI := hide hI
      have HK := hide hk
      clear KP KS hI hk T3 hy hsx
      gi_wp2
      refine wpIn_region_heldR (fun w' => w'.cell? ⟨w.heap.size, 0, none⟩ = some (.pointer (some ⟨sb, 0, none⟩)) ∧ w'.cell? ⟨sb, 0, none⟩ = some (.pointer (some ⟨hb, 0, none⟩)) ∧ w'.cell? ⟨Bp, 0, none⟩ = some (.int .u64 (p : Int)) ∧ w'.cell? ⟨w3.heap.size, 0, none⟩ = some (.int .i64 (k : Int))) (by kernel_rfl) (by kernel_rfl) (by rintro ⟨_, _, h⟩; exact h) (by go_keep) (fun hHeld => ?_)
      refine wpAnyH_take (i := 0) (oi := { dst := some 35, op := Op.load 31 (Operand.tmp 2), type := 31, pos := "make.go:33", after := #[], guard := none }) (v := ?_) rfl (by kernel_rfl) (by kernel_rfl) (by kernel_rfl) (fun _ _ _ h => h) (Or.inl ⟨by rfl, ?_⟩) (by assumption) ?_; rotate_left; · (intro w hSw; (try dsimp only at hSw); go_simp; (try with_reducible rfl)); try simp only [Act.put, List.setIfInBounds_toArray, List.set_cons_zero, List.set_cons_succ]
      refine wpAnyH_take (i := 1) (oi := { dst := some 36, op := Op.nilCheck (Operand.tmp 35), type := 0, pos := "make.go:33", after := #[{ on := 0, ground := Ground.data }], guard := none }) (v := ?_) rfl (by kernel_rfl) (by kernel_rfl) (by kernel_rfl) (fun _ _ _ h => h) (Or.inl ⟨by rfl, ?_⟩) (by assumption) ?_; rotate_left; · (intro w hSw; (try dsimp only at hSw); go_simp; (try with_reducible rfl)); try simp only [Act.put, List.setIfInBounds_toArray, List.set_cons_zero, List.set_cons_succ]
      refine wpAnyH_take (i := 2) (oi := { dst := some 37, op := Op.fieldAddr 52 (Operand.tmp 36) 0, type := 0, pos := "make.go:33", after := #[{ on := 1, ground := Ground.data }], guard := none }) (v := ?_) rfl (by kernel_rfl) (by kernel_rfl) (by kernel_rfl) (fun _ _ _ h => h) (Or.inl ⟨by rfl, ?_⟩) (by assumption) ?_; rotate_left; · (intro w hSw; (try dsimp only at hSw); go_simp; (try with_reducible rfl)); try simp only [Act.put, List.setIfInBounds_toArray, List.set_cons_zero, List.set_cons_succ]
      refine wpAnyH_take (i := 3) (oi := { dst := some 38, op := Op.load 47 (Operand.tmp 37), type := 47, pos := "make.go:33", after := #[{ on := 2, ground := Ground.data }], guard := none }) (v := ?_) rfl (by kernel_rfl) (by kernel_rfl) (by kernel_rfl) (fun _ _ _ h => h) (Or.inl ⟨by rfl, ?_⟩) (by assumption) ?_; rotate_left; · (intro w hSw; (try dsimp only at hSw); go_simp; (try with_reducible rfl)); try simp only [Act.put, List.setIfInBounds_toArray, List.set_cons_zero, List.set_cons_succ]
      refine wpAnyH_take (i := 4) (oi := { dst := some 39, op := Op.load 22 (Operand.tmp 6), type := 22, pos := "make.go:33", after := #[], guard := none }) (v := ?_) rfl (by kernel_rfl) (by kernel_rfl) (by kernel_rfl) (fun _ _ _ h => h) (Or.inl ⟨by rfl, ?_⟩) (by assumption) ?_; rotate_left; · (intro w hSw; (try dsimp only at hSw); go_simp; (try with_reducible rfl)); try simp only [Act.put, List.setIfInBounds_toArray, List.set_cons_zero, List.set_cons_succ]
      refine wpAnyH_take (i := 5) (oi := { dst := some 40, op := Op.load 3 (Operand.tmp 8), type := 3, pos := "make.go:33", after := #[], guard := none }) (v := ?_) rfl (by kernel_rfl) (by kernel_rfl) (by kernel_rfl) (fun _ _ _ h => h) (Or.inl ⟨by rfl, ?_⟩) (by assumption) ?_; rotate_left; · (intro w hSw; (try dsimp only at hSw); go_simp; (try with_reducible rfl)); try simp only [Act.put, List.setIfInBounds_toArray, List.set_cons_zero, List.set_cons_succ]
      refine wpAnyH_take (i := 6) (oi := { dst := some 41, op := Op.move (Operand.tmp 9), type := 38, pos := "make.go:33", after := #[], guard := none }) (v := ?_) rfl (by kernel_rfl) (by kernel_rfl) (by kernel_rfl) (fun _ _ _ h => h) (Or.inl ⟨by rfl, ?_⟩) (by assumption) ?_; rotate_left; · (intro w hSw; (try dsimp only at hSw); go_simp; (try with_reducible rfl)); try simp only [Act.put, List.setIfInBounds_toArray, List.set_cons_zero, List.set_cons_succ]
      refine wpAnyH_ready (rs := [7]) (by kernel_rfl) (by simp) ?_; refine AllReadyH.cons (o := { dst := some 42, op := Op.call { callee := Callee.value (Operand.func 54), args := #[Operand.tmp 41], argTypes := #[38] }, type := 22, pos := "make.go:33", after := #[{ on := 6, ground := Ground.data }], guard := none }) rfl (fun K hK => ?_) AllReadyH.nil
      go_simp
      go_at_call 54
      refine HKP.out.mono ?_
      rintro e w1 ⟨rfl, hw⟩
      replace hw := hw.symm
      subst hw
      go_wp2_with fail
      refine hK.out _ _ (by go_keep) (fun hHeld => ?_)
      clear hK K
      try simp only [Act.put, List.setIfInBounds_toArray, List.set_cons_zero, List.set_cons_succ]
      refine wpAnyH_ready (rs := [8]) (by kernel_rfl) (by simp) ?_; refine AllReadyH.cons (o := { dst := some 43, op := Op.call { callee := Callee.value (Operand.func 52), args := #[Operand.tmp 38, Operand.tmp 39, Operand.tmp 40, Operand.tmp 42], argTypes := #[47, 22, 3, 22] }, type := 4, pos := "make.go:33", after := #[{ on := 3, ground := Ground.data }, { on := 4, ground := Ground.data }, { on := 5, ground := Ground.data }, { on := 7, ground := Ground.data }, { on := 7, ground := Ground.chain }], guard := none }) rfl (fun K hK => ?_) AllReadyH.nil
      go_simp
      go_at_call 52
      refine HKS2.out.mono ?_
      rintro e w5 ⟨rfl, H5, F5⟩
      have I5 := HI.out.turn H5 F5
      have T3 := HT3.out
      have d0 : w5.cell? ⟨w.heap.size, 0, none⟩ = some (.pointer (some ⟨sb, 0, none⟩)) := (F5.cell (by have := HI.out.big; show _ < W.heap.size; omega) T3.nS).trans c0
      have d1 : w5.cell? ⟨sb, 0, none⟩ = some (.pointer (some ⟨hb, 0, none⟩)) := (F5.cell (by have := HI.out.big; show _ < W.heap.size; omega) hsX2).trans c1
      have d2 : w5.cell? ⟨Bp, 0, none⟩ = some (.int .u64 (p : Int)) := (F5.cell (by have := HI.out.big; show _ < W.heap.size; omega) T3.nP).trans c2
      have d3 : w5.cell? ⟨w3.heap.size, 0, none⟩ = some (.int .i64 (k : Int)) := (cell_of_row w5 _ 0 _ _ _ I5.bi).trans (by rw [HK.out]; rfl)
      have fz := frozen_of_row w5 w3.heap.size 0 _ _ I5.bi
      have HI5 := hide I5
      have HF5 := hide F5
      clear H5 F5 I5 T3
      go_wp2_with fail
      refine hK.out _ _ ⟨d0, d1, d2, d3⟩ (fun hHeld => ?_)
      clear hK K
      try simp only [Act.put, List.setIfInBounds_toArray, List.set_cons_zero, List.set_cons_succ]
      refine wpAnyH_done (by kernel_rfl) ?_ _
      gi_wp2
      have e1 : (1 + (pre ++ [x]).length) = k + 1 := by rw [HK.out]; simp; omega
      have kp := HI.out.keep HF5.out (.int .i64 ((k + 1 : Nat) : Int))
      have st1 := HI5.out.store (k + 1)
      have e2 : ((k + 1 : Nat) : Int) = (k : Int) + 1 := by push_cast; rfl
      rw [e2] at kp st1
      refine ⟨kp.1, kp.2, ?_⟩
      show TxI w3 hb X2 sz tm (n + 1 + 0 + N) (tagF f n (hOf 3 0 N) (txtR g len (pre ++ [x])) (1 + (pre ++ [x]).length)) (also st n) (1 + (pre ++ [x]).length) _
      rw [e1] at st1 ⊢
      exact st1
    case done =>
      rintro D ys W hD rfl hI hK
      have T3 := HT3.out
      have lp : Bp < w3.heap.size := (Array.getElem?_eq_some_iff.1 T3.bp).1
      have c2 : W.cell? ⟨Bp, 0, none⟩ = some (.int .u64 (p : Int)) := (hI.F.cell lp T3.nP).trans (cell_of_row w3 Bp 0 _ _ _ T3.bp)
      have HI := hide hI
      clear hI T3
      go_wp2
      refine ⟨by simp, .inl ⟨_, _, rfl, run_takeDeferred hK, ?_⟩⟩
      refine ⟨_, results_tmp2 rfl _ _ _, ?_⟩
      have hg := grownBy_putObj' W D (.deferred none)
      have I2 := HI.out.grown hg (B := w3.heap.size + 3) (Nat.le_refl _) (fun r e => by cases e; exact ⟨by omega, _, hK, rfl⟩)
      have T3 := HT3.out
      have hNe := HN.out
      refine ⟨by rw [← HP.out]; rfl, X2, ?_, T3.G, Fr.trans T3.F I2.F (fun k hk e => ?_)⟩
      · have := I2.H
        rw [upto_length, tagF_congr (fun i hi => txtR_upto hi)] at this
        rw [hNe] at this
        exact this
      · rcases T3.G k e with e | e
        · exact e
        · omega
    case stop =>
      rintro D c pre W hD hS2 hI hK
      exact hI.elim

end Go.Proofs.Ytchdfenickjiiaa
