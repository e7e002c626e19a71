/-
  What is proved here: package read's joined.
-/
import Derived.Test.YteipogfolnlblaaDoorWXPQ
namespace Go.Proofs.YteipogfolnlblaaDoor
open Go Go.RowKit
set_option maxHeartbeats 8000000 in
set_option maxRecDepth 100000 in
theorem joined_one (lo h : Nat) (I : List (Tr (h + 1))) (ao : Option Addr) (cap : Nat) (xs : List Value) (tr : Tr (h + 1)) (ck cn : Int) (cb : Bool) (j1 : Option Addr) (j2 j3 : Nat) (cs : ByteArray) (i1 : Option Addr) (i2 i3 : Nat) (r1 : Option Addr) (r2 r3 : Nat) (w : World) (Z : Nat → Prop) (hZf : ∀ b, w.heap.size ≤ b → Z b) (hZo : ∀ b, (Value.slice ao I.length cap).ownBlock = some b → Z b) (hL : w.ownsRow lo 31 7 (.slice ao I.length cap) I.length xs) (hit : ∀ j (hj : j < I.length), DatQ (fun b => lo ≤ b ∧ (Value.slice ao I.length cap).ownBlock ≠ some b ∧ Z b) w (h + 1) I[j] (sv xs j)) (hlo : lo ≤ w.heap.size) (hd : DatQ (fun b => lo ≤ b ∧ (Value.slice ao I.length cap).ownBlock ≠ some b ∧ Z b) w (h + 1) tr [.int .i64 ck, .int .i64 cn, .bool cb, .slice j1 j2 j3, .string cs, .slice i1 i2 i3, .slice r1 r2 r3]) (hb : I.length + itN tr ≤ 1000000000) (hk : ¬ ck = 6) :
    Calls Tryd.prog 86 #[.agg #[.int .i64 6, .int .i64 0, .bool false, .slice none 0 0, .string ⟨#[]⟩, .slice ao I.length cap, .slice none 0 0], .agg #[.int .i64 ck, .int .i64 cn, .bool cb, .slice j1 j2 j3, .string cs, .slice i1 i2 i3, .slice r1 r2 r3]] w fun e w' =>
      ∃ (a1 : Option Addr) (a2 a3 : Nat) (e1 : Option Addr) (e2 e3 : Nat), e = .returned (.agg #[.int .i64 6, .int .i64 0, .bool false, .slice none 0 0, .string ⟨#[]⟩, .slice a1 a2 a3, .slice e1 e2 e3]) ∧ DatQ (fun b => lo ≤ b ∧ Z b) w' (h + 2) (joinT I tr) [.int .i64 6, .int .i64 0, .bool false, .slice none 0 0, .string ⟨#[]⟩, .slice a1 a2 a3, .slice e1 e2 e3] ∧ Below 0 w w' ∧ ∀ g, g < w.heap.size → (Value.slice ao I.length cap).ownBlock ≠ some g → w'.heap[g]? = w.heap[g]? := by
  have HL := hide hL
  have HD := hide hd
  have HI := hide hit
  clear hL hd hit
  go_enter Tryd.func86, Tryd.ntmps86
  go_wp2_with fail
  refine bodyPost_ret (by simp [results, Tryd.results86, go_sem]; rfl) rfl ?_
  have u : Up w ((((w.alloc (.cells #[.int .i64 6, .int .i64 0, .bool false, .slice none 0 0, .string ⟨#[]⟩, .slice ao I.length cap, .slice (some ⟨w.heap.size + 1 + 1 + 1, 0, none⟩) 1 1] 31)).alloc (.cells #[.int .i64 ck, .int .i64 cn, .bool cb, .slice j1 j2 j3, .string cs, .slice i1 i2 i3, .slice r1 r2 r3] 31)).alloc (.cells #[.int .i64 6, .int .i64 0, .bool false, .slice none 0 0, .string ⟨#[]⟩, .slice ao I.length cap, .slice (some ⟨w.heap.size + 1 + 1 + 1, 0, none⟩) 1 1] 31)).alloc (.cells #[.int .i64 ck, .int .i64 cn, .bool cb, .slice j1 j2 j3, .string cs, .slice i1 i2 i3, .slice r1 r2 r3] 31)) := (((up_alloc w _).tr (up_alloc _ _)).tr (up_alloc _ _)).tr (up_alloc _ _)
  have g6 : ((((w.alloc (.cells #[.int .i64 6, .int .i64 0, .bool false, .slice none 0 0, .string ⟨#[]⟩, .slice ao I.length cap, .slice (some ⟨w.heap.size + 1 + 1 + 1, 0, none⟩) 1 1] 31)).alloc (.cells #[.int .i64 ck, .int .i64 cn, .bool cb, .slice j1 j2 j3, .string cs, .slice i1 i2 i3, .slice r1 r2 r3] 31)).alloc (.cells #[.int .i64 6, .int .i64 0, .bool false, .slice none 0 0, .string ⟨#[]⟩, .slice ao I.length cap, .slice (some ⟨w.heap.size + 1 + 1 + 1, 0, none⟩) 1 1] 31)).alloc (.cells #[.int .i64 ck, .int .i64 cn, .bool cb, .slice j1 j2 j3, .string cs, .slice i1 i2 i3, .slice r1 r2 r3] 31)).heap[w.heap.size + 1 + 1 + 1]? = some (.cells #[.int .i64 ck, .int .i64 cn, .bool cb, .slice j1 j2 j3, .string cs, .slice i1 i2 i3, .slice r1 r2 r3] 31) := by
    have := heap_alloc_new (((w.alloc (.cells #[.int .i64 6, .int .i64 0, .bool false, .slice none 0 0, .string ⟨#[]⟩, .slice ao I.length cap, .slice (some ⟨w.heap.size + 1 + 1 + 1, 0, none⟩) 1 1] 31)).alloc (.cells #[.int .i64 ck, .int .i64 cn, .bool cb, .slice j1 j2 j3, .string cs, .slice i1 i2 i3, .slice r1 r2 r3] 31)).alloc (.cells #[.int .i64 6, .int .i64 0, .bool false, .slice none 0 0, .string ⟨#[]⟩, .slice ao I.length cap, .slice (some ⟨w.heap.size + 1 + 1 + 1, 0, none⟩) 1 1] 31)) (.cells #[.int .i64 ck, .int .i64 cn, .bool cb, .slice j1 j2 j3, .string cs, .slice i1 i2 i3, .slice r1 r2 r3] 31)
    simpa using this
  generalize ((((w.alloc (.cells #[.int .i64 6, .int .i64 0, .bool false, .slice none 0 0, .string ⟨#[]⟩, .slice ao I.length cap, .slice (some ⟨w.heap.size + 1 + 1 + 1, 0, none⟩) 1 1] 31)).alloc (.cells #[.int .i64 ck, .int .i64 cn, .bool cb, .slice j1 j2 j3, .string cs, .slice i1 i2 i3, .slice r1 r2 r3] 31)).alloc (.cells #[.int .i64 6, .int .i64 0, .bool false, .slice none 0 0, .string ⟨#[]⟩, .slice ao I.length cap, .slice (some ⟨w.heap.size + 1 + 1 + 1, 0, none⟩) 1 1] 31)).alloc (.cells #[.int .i64 ck, .int .i64 cn, .bool cb, .slice j1 j2 j3, .string cs, .slice i1 i2 i3, .slice r1 r2 r3] 31)) = W6 at *
  have hfin := own_row (P := DatQ (fun b => lo ≤ b ∧ Z b) W6 (h + 1)) (ownsRow_blk HL.out (w' := W6) (fun _ _ hg => u.old hg)) rfl (fun j hj => DatQ.keep (fun g hg _ => u.block g hg) (fun g _ hq => ⟨hq.1, hq.2.2⟩) (HI.out j hj))
  have hd6 : DatQ (fun b => lo ≤ b ∧ Z b) W6 (h + 1) tr [.int .i64 ck, .int .i64 cn, .bool cb, .slice j1 j2 j3, .string cs, .slice i1 i2 i3, .slice r1 r2 r3] := DatQ.keep (fun g hg _ => u.block g hg) (fun g _ hq => ⟨hq.1, hq.2.2⟩) HD.out
  have hj : joinT I tr = seqT 6 I [tr] := by
    obtain ⟨tk, tn, tb, tL, tt, tJ, tR⟩ := tr
    obtain ⟨um, ui, ur, e, -⟩ := HD.out
    have : tk = ck := by simp at e; exact e.1.symm
    unfold joinT
    simp only []
    rw [if_neg (by rw [this]; exact hk)]
  rw [hj]
  refine ⟨_, _, _, _, _, _, rfl, ⟨_, _, _, rfl, by decide, sl_nil _, fun i hi => by simp at hi, hfin.1, ?_, .inl rfl, hfin.2.mono (fun g hg => ⟨hg.1, hZo g hg.2⟩), .inr ⟨_, _, _, rfl, by show lo ≤ w.heap.size + 1 + 1 + 1; omega, hZf _ (by show w.heap.size ≤ w.heap.size + 1 + 1 + 1; omega)⟩⟩, Below.mono u (Nat.zero_le _), fun g hg _ => u.block g hg⟩
  refine ⟨some ⟨w.heap.size + 1 + 1 + 1, 0, none⟩, 1, rfl, by simp, by decide, .inr ⟨w.heap.size + 1 + 1 + 1, 0, rfl, fun i hi => ?_⟩⟩
  match i, hi with
  | 0, _ => exact ⟨_, rfl, fun j hj => by rw [cell_of_row _ _ _ _ _ _ g6]; match j, hj with | 0, _ | 1, _ | 2, _ | 3, _ | 4, _ | 5, _ | 6, _ => rfl, hd6⟩

set_option maxHeartbeats 8000000 in
set_option maxRecDepth 100000 in
theorem joined_list (lo h : Nat) (I : List (Tr (h + 1))) (ao : Option Addr) (cap : Nat) (xs : List Value) (tr : Tr (h + 1)) (cn : Int) (cb : Bool) (j1 : Option Addr) (j2 j3 : Nat) (cs : ByteArray) (i1 : Option Addr) (i2 i3 : Nat) (r1 : Option Addr) (r2 r3 : Nat) (w : World) (Z : Nat → Prop) (hZf : ∀ b, w.heap.size ≤ b → Z b) (hZo : ∀ b, (Value.slice ao I.length cap).ownBlock = some b → Z b) (hL : w.ownsRow lo 31 7 (.slice ao I.length cap) I.length xs) (hit : ∀ j (hj : j < I.length), DatQ (fun b => lo ≤ b ∧ (Value.slice ao I.length cap).ownBlock ≠ some b ∧ Z b) w (h + 1) I[j] (sv xs j)) (hlo : lo ≤ w.heap.size) (hd : DatQ (fun b => lo ≤ b ∧ (Value.slice ao I.length cap).ownBlock ≠ some b ∧ Z b) w (h + 1) tr [.int .i64 6, .int .i64 cn, .bool cb, .slice j1 j2 j3, .string cs, .slice i1 i2 i3, .slice r1 r2 r3]) (hb : I.length + itN tr ≤ 1000000000)  :
    Calls Tryd.prog 86 #[.agg #[.int .i64 6, .int .i64 0, .bool false, .slice none 0 0, .string ⟨#[]⟩, .slice ao I.length cap, .slice none 0 0], .agg #[.int .i64 6, .int .i64 cn, .bool cb, .slice j1 j2 j3, .string cs, .slice i1 i2 i3, .slice r1 r2 r3]] w fun e w' =>
      ∃ (a1 : Option Addr) (a2 a3 : Nat) (e1 : Option Addr) (e2 e3 : Nat), e = .returned (.agg #[.int .i64 6, .int .i64 0, .bool false, .slice none 0 0, .string ⟨#[]⟩, .slice a1 a2 a3, .slice e1 e2 e3]) ∧ DatQ (fun b => lo ≤ b ∧ Z b) w' (h + 2) (joinT I tr) [.int .i64 6, .int .i64 0, .bool false, .slice none 0 0, .string ⟨#[]⟩, .slice a1 a2 a3, .slice e1 e2 e3] ∧ Below 0 w w' ∧ ∀ g, g < w.heap.size → (Value.slice ao I.length cap).ownBlock ≠ some g → w'.heap[g]? = w.heap[g]? := by
  have g1 := heap_alloc_new w (.cells #[.int .i64 6, .int .i64 0, .bool false, .slice none 0 0, .string ⟨#[]⟩, .slice ao I.length cap, .slice none 0 0] 31)
  have u1 := up_alloc w (.cells #[.int .i64 6, .int .i64 0, .bool false, .slice none 0 0, .string ⟨#[]⟩, .slice ao I.length cap, .slice none 0 0] 31)
  have z1 : (w.alloc (.cells #[.int .i64 6, .int .i64 0, .bool false, .slice none 0 0, .string ⟨#[]⟩, .slice ao I.length cap, .slice none 0 0] 31)).heap.size = w.heap.size + 1 := World.size_alloc _ _
  obtain ⟨W1, hW1⟩ : ∃ W1, W1 = w.alloc (.cells #[.int .i64 6, .int .i64 0, .bool false, .slice none 0 0, .string ⟨#[]⟩, .slice ao I.length cap, .slice none 0 0] 31) := ⟨_, rfl⟩
  rw [← hW1] at g1 u1 z1
  have g2 : (W1.alloc (.cells #[.int .i64 6, .int .i64 cn, .bool cb, .slice j1 j2 j3, .string cs, .slice i1 i2 i3, .slice r1 r2 r3] 31)).heap[w.heap.size + 1]? = some (.cells #[.int .i64 6, .int .i64 cn, .bool cb, .slice j1 j2 j3, .string cs, .slice i1 i2 i3, .slice r1 r2 r3] 31) := by rw [← z1]; exact heap_alloc_new W1 _
  have u2 := up_alloc W1 (.cells #[.int .i64 6, .int .i64 cn, .bool cb, .slice j1 j2 j3, .string cs, .slice i1 i2 i3, .slice r1 r2 r3] 31)
  have z2 : (W1.alloc (.cells #[.int .i64 6, .int .i64 cn, .bool cb, .slice j1 j2 j3, .string cs, .slice i1 i2 i3, .slice r1 r2 r3] 31)).heap.size = w.heap.size + 2 := by rw [World.size_alloc, z1]
  obtain ⟨W2, hW2⟩ : ∃ W2, W2 = W1.alloc (.cells #[.int .i64 6, .int .i64 cn, .bool cb, .slice j1 j2 j3, .string cs, .slice i1 i2 i3, .slice r1 r2 r3] 31) := ⟨_, rfl⟩
  rw [← hW2] at g2 u2 z2
  have g3 : (W2.alloc zer7).heap[w.heap.size + 2]? = some zer7 := by rw [← z2]; exact heap_alloc_new W2 _
  have u3 := up_alloc W2 zer7
  have z3 : (W2.alloc zer7).heap.size = w.heap.size + 3 := by rw [World.size_alloc, z2]
  obtain ⟨W3, hW3⟩ : ∃ W3, W3 = W2.alloc zer7 := ⟨_, rfl⟩
  rw [← hW3] at g3 u3 z3
  have b1 := (u2.tr u3).old g1
  have b2 := u3.old g2
  have uC := u1.tr (u2.tr u3)
  have HW := hide (show W3 = ((w.alloc (.cells #[.int .i64 6, .int .i64 0, .bool false, .slice none 0 0, .string ⟨#[]⟩, .slice ao I.length cap, .slice none 0 0] 31)).alloc (.cells #[.int .i64 6, .int .i64 cn, .bool cb, .slice j1 j2 j3, .string cs, .slice i1 i2 i3, .slice r1 r2 r3] 31)).alloc zer7 from by rw [hW3, hW2, hW1])
  obtain ⟨o0, o1, o2, o3, o4, o5, o6⟩ := cells7 b2
  obtain ⟨m0, m1, m2, m3, m4, m5, m6⟩ := cells7 b1
  obtain ⟨tk, tn, tb, tL, tt, tJ, tR⟩ := tr
  obtain ⟨um, ui, ur, e, h0, h1, h2, h3, h4, v1, v2, v3⟩ := hd
  simp only [List.cons.injEq, and_true] at e
  obtain ⟨ek, en, eb, rfl, et, rfl, rfl⟩ := e
  have ek : tk = 6 := by simpa using ek.symm
  subst ek
  have h3' : RowD W3 (DatQ (fun b => lo ≤ b ∧ (Value.slice ao I.length cap).ownBlock ≠ some b ∧ Z b) w h) (.slice i1 i2 i3) tJ := h3.blk (Q := fun b => lo ≤ b ∧ (Value.slice ao I.length cap).ownBlock ≠ some b ∧ Z b) v2 (fun g hg _ => uC.block g hg) (fun _ _ h => h)
  have hown3 : W3.ownsRow lo 31 7 (.slice ao I.length cap) I.length xs := ownsRow_blk hL (w' := W3) (fun _ _ hg => uC.old hg)
  have hone : ∀ (b : Tr h) cs, DatQ (fun b => lo ≤ b ∧ (Value.slice ao I.length cap).ownBlock ≠ some b ∧ Z b) w h b cs → ∀ u ∈ cs, u.oneCell' = true := fun b cs hq => hq.dat.onesR
  have hbJ : I.length + tJ.length ≤ 1000000000 := hb
  have vlt : ∀ b, (Value.slice ao I.length cap).ownBlock = some b → lo ≤ b ∧ b < w.heap.size := fun b hb => hL.lt b hb
  have hlo3 : lo ≤ W3.heap.size := by omega
  have HG := hide (And.intro b1 (And.intro b2 (And.intro g3 (And.intro uC (And.intro z3 vlt)))))
  have HL := hide hL
  have HI := hide hit
  have HA := hide (And.intro hown3 h3')
  have HD := hide (And.intro h4 v3)
  unfold zer7 at HW HG
  clear g1 u1 z1 g2 u2 z2 g3 u3 z3 b1 b2 uC hW3 hL hit h0 h1 h2 h3 h4 v1 v2 v3 h3' hown3 vlt en eb et hb
  clear hW2 W2
  clear hW1 W1
  rw [HW.out] at m0 m1 m2 m3 m4 m5 m6 o0 o1 o2 o3 o4 o5 o6
  go_enter Tryd.func86, Tryd.ntmps86
  go_wp2_with (at_builtin; rw [← HW.out]; refine app_row rfl _ _ rfl rfl rfl HA.out.1 HA.out.2 hone hbJ hlo3 ?_; intro v' w9 news hn hown hgrow hat; obtain ⟨a1, a3, rfl⟩ : ∃ a1 a3, v' = .slice a1 (I.length + tJ.length) a3 := (by rcases hown.2 with ⟨e, e0⟩ | ⟨g, c, cur, e, _⟩; exact ⟨none, 0, by rw [e, e0]⟩; exact ⟨_, _, e⟩); obtain ⟨b1, b2, g3, uC, z3, vlt⟩ := HG.out; have ne : ∀ g, w.heap.size ≤ g → g < W3.heap.size → w9.heap[g]? = W3.heap[g]? := fun g h1 h2 => hgrow.block g h2 (fun e => by have := (vlt g e.symm).2; omega); have c1 := (ne w.heap.size (Nat.le_refl _) (by omega)).trans b1; have c2 := (ne (w.heap.size + 1) (by omega) (by omega)).trans b2; have c3 := (ne (w.heap.size + 2) (by omega) (by omega)).trans g3; have b10 := heap_setCell_same w9 w.heap.size 5 _ _ (.slice a1 (I.length + tJ.length) a3) c1; have k10 : Kr w.heap.size w9 (w9.setCell ⟨w.heap.size, 5, none⟩ (.slice a1 (I.length + tJ.length) a3)) := (Kr.refl _ w9).setCell _ _; rw [show (#[.int .i64 6, .int .i64 0, .bool false, .slice none 0 0, .string ⟨#[]⟩, .slice ao I.length cap, .slice none 0 0] : Array Value).setIfInBounds 5 (.slice a1 (I.length + tJ.length) a3) = #[.int .i64 6, .int .i64 0, .bool false, .slice none 0 0, .string ⟨#[]⟩, .slice a1 (I.length + tJ.length) a3, .slice none 0 0] from rfl] at b10; have d2 := k10.old (by omega) c2; have d3 := k10.old (by omega) c3; have b11 := heap_setCell_same (w9.setCell ⟨w.heap.size, 5, none⟩ (.slice a1 (I.length + tJ.length) a3)) w.heap.size 6 _ _ (.slice r1 r2 r3) b10; have k11 : Kr w.heap.size (w9.setCell ⟨w.heap.size, 5, none⟩ (.slice a1 (I.length + tJ.length) a3)) ((w9.setCell ⟨w.heap.size, 5, none⟩ (.slice a1 (I.length + tJ.length) a3)).setCell ⟨w.heap.size, 6, none⟩ (.slice r1 r2 r3)) := (Kr.refl _ _).setCell _ _; rw [show (#[.int .i64 6, .int .i64 0, .bool false, .slice none 0 0, .string ⟨#[]⟩, .slice a1 (I.length + tJ.length) a3, .slice none 0 0] : Array Value).setIfInBounds 6 (.slice r1 r2 r3) = #[.int .i64 6, .int .i64 0, .bool false, .slice none 0 0, .string ⟨#[]⟩, .slice a1 (I.length + tJ.length) a3, .slice r1 r2 r3] from rfl] at b11; have e3 := k11.old (by omega) d3; clear m0 m1 m2 m3 m4 m5 m6 o0 o1 o2 o3 o4 o5 o6; obtain ⟨m0, m1, m2, m3, m4, m5, m6⟩ := cells7 c1; obtain ⟨f0, f1, f2, f3, f4, f5, f6⟩ := frozen7k c1; obtain ⟨o0, o1, o2, o3, o4, o5, o6⟩ := cells7 d2; obtain ⟨n0, n1, n2, n3, n4, n5, n6⟩ := cells7 b10; obtain ⟨g0, g1, g2, g3', g4, g5, g6⟩ := frozen7k b10; obtain ⟨p0, p1, p2, p3, p4, p5, p6⟩ := cells7 b11; obtain ⟨q0, q1, q2, q3, q4, q5, q6⟩ := cells7 e3; obtain ⟨s0, s1, s2, s3, s4, s5, s6⟩ := frozen7k e3; have H11 := hide (And.intro e3 (And.intro (k10.tr k11) (And.intro hn (And.intro hown (And.intro hgrow hat))))); clear b1 b2 g3 uC z3 vlt ne c1 c2 c3 b10 k10 d2 d3 b11 k11 e3 hn hown hgrow hat)
  obtain ⟨e3, k11, hn, hown, hgrow, hat⟩ := H11.out
  obtain ⟨t1, t2⟩ := sto7k e3 (.int .i64 6) (.int .i64 0) (.bool false) (.slice none 0 0) (.string ⟨#[]⟩) (.slice a1 (I.length + tJ.length) a3) (.slice r1 r2 r3)
  clear m0 m1 m2 m3 m4 m5 m6 f0 f1 f2 f3 f4 f5 f6 o0 o1 o2 o3 o4 o5 o6 n0 n1 n2 n3 n4 n5 n6 g0 g1 g2 g3' g4 g5 g6 p0 p1 p2 p3 p4 p5 p6 q0 q1 q2 q3 q4 q5 q6 s0 s1 s2 s3 s4 s5 s6
  generalize (w9.setCell ⟨w.heap.size, 5, none⟩ (.slice a1 (I.length + tJ.length) a3)).setCell ⟨w.heap.size, 6, none⟩ (.slice r1 r2 r3) = W11 at *
  generalize (((((((W11.setCell ⟨(w.heap.size + 2), 0, none⟩ (.int .i64 6)).setCell ⟨(w.heap.size + 2), 1, none⟩ (.int .i64 0)).setCell ⟨(w.heap.size + 2), 2, none⟩ (.bool false)).setCell ⟨(w.heap.size + 2), 3, none⟩ (.slice none 0 0)).setCell ⟨(w.heap.size + 2), 4, none⟩ (.string ⟨#[]⟩)).setCell ⟨(w.heap.size + 2), 5, none⟩ (.slice a1 (I.length + tJ.length) a3)).setCell ⟨(w.heap.size + 2), 6, none⟩ (.slice r1 r2 r3)) = W12 at *
  obtain ⟨d0, d1, d2, d3, d4, d5, d6⟩ := cells7 t1
  refine bodyPost_ret (by simp [results, Tryd.results86, go_sem, d0, d1, d2, d3, d4, d5, d6]; rfl) rfl ?_
  obtain ⟨b1, b2, g3, uC, z3, vlt⟩ := HG.out
  have s9 := hgrow.size
  have hk12 : ∀ g, g < w9.heap.size → g ≠ w.heap.size → g ≠ w.heap.size + 2 → W12.heap[g]? = w9.heap[g]? := fun g hg h1 h2 => (t2.2 g (Nat.lt_of_lt_of_le hg k11.1.size) h2).trans (k11.2 g hg h1)
  have hold : ∀ g, g < w.heap.size → (Value.slice ao I.length cap).ownBlock ≠ some g → W12.heap[g]? = w.heap[g]? := fun g hg hq => (hk12 g (by omega) (by omega) (by omega)).trans ((hgrow.block g (by omega) (fun e => hq e.symm)).trans (uC.block g hg))
  have own12 : W12.ownsRow lo 31 7 (.slice a1 (I.length + tJ.length) a3) (I.length + tJ.length) (xs ++ news) := by
    refine ⟨hown.1, ?_⟩
    rcases hown.2 with e | ⟨g, c, cur, e, h1, h2, h3⟩
    · exact .inl e
    · refine .inr ⟨g, c, cur, e, h1, ?_, h3⟩
      have hg : (Value.slice a1 (I.length + tJ.length) a3).ownBlock = some g := by rw [e]; rfl
      have hne : g ≠ w.heap.size ∧ g ≠ w.heap.size + 2 := by
        rcases hat with h | h
        · rw [h] at hg; have := (vlt g hg).2; omega
        · rw [hg] at h; cases h; omega
      exact (hk12 g (Array.getElem?_eq_some_iff.1 h2).1 hne.1 hne.2).trans h2
  have hlen := HL.out.1
  obtain ⟨h4, v3⟩ := HD.out
  have hj : joinT I (6, tn, tb, tL, tt, tJ, tR) = seqT 6 (I ++ tJ.map (upT h)) (tR.map (upT h)) := by
    unfold joinT
    simp only []
    rw [if_pos trivial]
  rw [hj]
  have hrow := own_row (P := DatQ (fun b => lo ≤ b ∧ Z b) W12 (h + 1)) (I := I ++ tJ.map (upT h)) own12 (by simp) (fun j hj => by
    rw [List.length_append, List.length_map] at hj
    by_cases hjI : j < I.length
    · rw [sv_old hlen hjI, List.getElem_append_left hjI]
      exact DatQ.keep (fun g hg hq => hold g hg hq.2.1) (fun g _ hq => ⟨hq.1, hq.2.2⟩) (HI.out j hjI)
    · obtain ⟨i, rfl⟩ : ∃ i, j = I.length + i := ⟨j - I.length, by omega⟩
      rw [sv_app hlen, List.getElem_append_right (by omega)]
      simp only [Nat.add_sub_cancel_left, List.getElem_map]
      exact DatQ.lift (DatQ.keep (fun g hg hq => hold g hg hq.2.1) (fun g _ hq => ⟨hq.1, hq.2.2⟩) (hn i (by omega))))
  have hrest : RowD W12 (DatQ (fun b => lo ≤ b ∧ Z b) W12 (h + 1)) (.slice r1 r2 r3) (tR.map (upT h)) := by
    refine RowD.map (P := DatQ (fun b => lo ≤ b ∧ Z b) W12 h) _ ?_ (fun _ _ hd => DatQ.lift hd)
    exact h4.blk (Q := fun b => lo ≤ b ∧ (Value.slice ao I.length cap).ownBlock ≠ some b ∧ Z b) v3 (fun g hg hq => hold g hg hq.2.1) (fun _ _ hd => DatQ.keep (fun g hg hq => hold g hg hq.2.1) (fun g _ hq => ⟨hq.1, hq.2.2⟩) hd)
  exact ⟨_, _, _, _, _, _, rfl, ⟨_, _, _, rfl, by decide, sl_nil _, fun i hi => by simp at hi, hrow.1, hrest, .inl rfl, hrow.2.mono (fun g hg => ⟨hg.1, by rcases hat with h | h; exact hZo g (h ▸ hg.2); (rw [hg.2] at h; cases h; exact hZf _ (by omega))⟩), by rw [List.length_map]; exact v3.mono (fun g hg => ⟨hg.1, hg.2.2⟩)⟩, (((Below.mono uC (Nat.zero_le _)).grown hgrow (Nat.zero_le _) (fun _ _ => Nat.zero_le _)).trans k11.1).trans t2.1, hold⟩

end Go.Proofs.YteipogfolnlblaaDoor
