/-
  What is proved here: package read's All, of any text: the data that the model reads, one behind the other, or where it is wrong.
-/
import Derived.Test.YteipogfolnlblaaDoorWXN
import Derived.Test.YteipogfolnlblaaDoorUP
namespace Go.Proofs.YteipogfolnlblaaDoor
open Go Go.RowKit

theorem hcellsU (w : World) (g : Nat) (hg : g = w.heap.size) (c0 c1 c2 c3 c4 c5 c6 : Value) (E : TypeId) : ∀ j u, [c0, c1, c2, c3, c4, c5, c6][j]? = some u → (w.alloc (.cells #[c0, c1, c2, c3, c4, c5, c6] E)).cell? ((⟨g, 0, none⟩ : Addr).add j) = some u := by
  subst hg
  exact hcellsR w c0 c1 c2 c3 c4 c5 c6 E
def lnV : Value → Nat
  | .slice _ n _ => n
  | _ => 0
def AllPost (w : World) {h : Nat} (R : LP ⊕ List (Tr (h + 1))) (e : Ending) (w' : World) : Prop :=
  Up w w' ∧ match R with
    | .inl q => e = .returned (.tuple #[.slice none 0 0, .int .i64 (q.x : Int), .int .i64 (q.er : Int)])
    | .inr I => ∃ ao cap, e = .returned (.tuple #[.slice ao I.length cap, .int .i64 0, .int .i64 0]) ∧ RowD w' (DatQ (fun k => w.heap.size ≤ k) w' (h + 1)) (.slice ao I.length cap) I ∧ VQ (fun k => w.heap.size ≤ k) (.slice ao I.length cap) I.length

def pcO (q : LP) : Obj := .cells #[.int .i64 (q.x : Int), .int .i64 (q.y : Int), .int .i64 (q.k : Int), .int .i64 (q.dk : Int), .int .i64 (q.n : Int), .bool false, .slice none 0 0, .string q.s, .slice none 0 0, .slice none 0 0, .int .i64 (q.er : Int)] 50 (0, 0)
/-- All under way: the next piece is the block B. -/
structure AI (w : World) (t : ByteArray) (h : Nat) (q : LP) (I : List (Tr (h + 1))) (v : Value) (xs : List Value) (B : Nat) (W : World) : Prop where
  rs : RS w w.heap.size t q.a 0 W
  lo : w.heap.size < B
  bx : W.heap[B]? = some (pcO q)
  li : LI (w.heap.size + 1) h I v xs W
  nb : v.ownBlock ≠ some B

/-- One datum more. -/
theorem AI.snoc {w : World} {t : ByteArray} {h : Nat} {q : LP} {I : List (Tr (h + 1))} {v : Value} {xs : List Value} {B a2 : Nat} {wr w6 w9 : World} {o1 o2 : Obj} {tr : Tr (h + 1)} {d0 d1 d2 d3 d4 d5 d6 : Value} {g cap : Nat} (R : AI w t h q I v xs B wr) (k : Kr w.heap.size wr w6) (hs : RS w w.heap.size t a2 0 w6) (hd : DatQ (fun b => wr.heap.size ≤ b) w6 (h + 1) tr [d0, d1, d2, d3, d4, d5, d6])
    (hown : w9.ownsRow (w.heap.size + 1) 31 7 (.slice (some ⟨g, 0, none⟩) (I.length + 1) cap) (I.length + 1) (xs ++ [d0, d1, d2, d3, d4, d5, d6])) (hgrow : ((w6.alloc o1).alloc o2).grownBy w9 v.ownBlock) (hat : v.ownBlock = some g ∨ g = w6.heap.size + 2) :
    RS w w.heap.size t a2 0 w9 ∧ w9.heap[B]? = some (pcO q) ∧ LI (w.heap.size + 1) h (I ++ [tr]) (.slice (some ⟨g, 0, none⟩) (I.length + 1) cap) (xs ++ [d0, d1, d2, d3, d4, d5, d6]) w9 := by
  have own := R.li.own
  have vge : ∀ b, v.ownBlock = some b → w.heap.size + 1 ≤ b := fun b hb => (own.lt b hb).1
  have hlt : w.heap.size < wr.heap.size := R.rs.lt
  have uA := (up_alloc w6 o1).tr (up_alloc _ o2)
  have sA : ((w6.alloc o1).alloc o2).heap.size = w6.heap.size + 2 := by simp
  have s6 := k.1.size
  have old : ∀ b, b < w6.heap.size → v.ownBlock ≠ some b → w9.heap[b]? = w6.heap[b]? := fun b hb hn => by
    rw [hgrow.block b (by omega) (fun e => hn e.symm)]
    exact uA.block b hb
  have hB : B < wr.heap.size := (Array.getElem?_eq_some_iff.1 R.bx).1
  have hup : Up w w9 := (hs.up.tr uA).grown hgrow (by rw [sA]; have := hs.up.size; omega) (fun b hb => by have := vge b hb; omega)
  refine ⟨⟨hup, hs.ge, (old _ (by omega) (fun e => by have := vge _ e; omega)).trans hs.cs⟩, (old B (by omega) R.nb).trans (k.old (by have := R.lo; omega) R.bx), ?_⟩
  refine R.li.snoc (wr := wr) (w2 := w6.alloc o1) (by omega) (by simp; omega) (fun b hb hl => ?_) (DatQ.keep (fun b hb _ => (up_alloc w6 o1).block b hb) (fun _ _ h => h) hd) hown hgrow (hat.imp id (fun e => by simp; omega))
  exact ((up_alloc w6 o1).block b (by omega)).trans (k.2 b hb (by omega))
/-- The next piece. -/
theorem AI.next {w : World} {t : ByteArray} {h : Nat} {q : LP} {I : List (Tr (h + 1))} {v : Value} {xs : List Value} {B' : Nat} {w9 w10 w11 : World} {o : Obj} (hL : LI (w.heap.size + 1) h I v xs w9) (hw9 : w.heap.size < w9.heap.size) (hB : B' = w9.heap.size) (k10 : Kr w.heap.size (w9.alloc o) w10) (h10 : RS w w.heap.size t q.a 0 w10) (q2 : Kr B' w10 w11) (q1 : w11.heap[B']? = some (pcO q)) :
    AI w t h q I v xs B' w11 := by
  subst hB
  have sA : (w9.alloc o).heap.size = w9.heap.size + 1 := World.size_alloc _ _
  have s10 := k10.1.size
  refine ⟨⟨q2.up h10.up (by omega), h10.ge, q2.old (by omega) h10.cs⟩, hw9, q1, hL.keep fun b hb hl => ?_, fun e => ?_⟩
  · exact (q2.2 b (by omega) (by omega)).trans ((k10.2 b (by omega) (by omega)).trans (heap_alloc_old _ _ hb))
  · have := (hL.own.lt _ e).2
    omega

set_option maxHeartbeats 32000000 in
set_option maxRecDepth 100000 in
theorem all_walk (t : ByteArray) (h g0 : Nat) (r : RM h) (w : World) (ht : t.size ≤ 65536) (hg0 : t.size + 1 ≤ g0) (hok : RMok t.size r)
    (hN : ∀ (W : World) (a : Nat), a ≤ t.size → RS w w.heap.size t a 0 W → Calls Tryd.prog 14 #[.pointer (some ⟨w.heap.size, 0, none⟩)] W fun e w' => e = .returned (pcP (r.nx 0 a)) ∧ RS w w.heap.size t (r.nx 0 a).a 0 w' ∧ Kr w.heap.size W w')
    (hD : ∀ (W : World) (p : LP), PieceOK t.size p → p.k ≠ 1 → p.k ≠ 2 → RS w w.heap.size t p.a 0 W → Calls Tryd.prog 13 #[.pointer (some ⟨w.heap.size, 0, none⟩), pcP p] W fun e w' => DPost w w.heap.size t 0 W (r.dt p) e w')
    (hlt : ∀ a x y tr a', a ≤ t.size → r.dt (r.nx 0 a) = .inr (x, y, tr, a') → a < a' ∧ a' ≤ t.size) :
    Calls Tryd.prog 12 #[.string t] w fun e w' => AllPost w (allR r g0 0 []) e w' := by
  obtain ⟨R, hR⟩ : ∃ R, R = allR r g0 0 [] := ⟨_, rfl⟩
  rw [← hR]
  obtain ⟨iD, hiD, hz0, hz1, hz2⟩ := info_parts infoDr
  have u1 := up_alloc w (.cells #[.string t, .int .i64 0, .int .i64 0] 46)
  have g1 := heap_alloc_new w (.cells #[.string t, .int .i64 0, .int .i64 0] 46)
  have KN := hN _ 0 (Nat.zero_le _) ⟨u1, Nat.le_refl _, g1⟩
  have HN0 := hide KN
  have HN := hide hN
  have HD := hide hD
  have HL := hide hlt
  have HOK := hide hok
  have HR := hide hR
  have HG0 := hide hg0
  unfold pcP pcV at HN0
  have hI2 : ¬ ((65536 : Int) < (t.size : Int)) := by omega
  clear hN hD hlt hok hR KN u1 g1 hg0
  go_enter Tryd.func12, Tryd.ntmps12
  go_wp2_with (go_at_call 14; refine HN0.out.mono ?_; rintro e w2 ⟨rfl, h2, k2⟩; have H2 := hide (And.intro h2 k2); clear h2 k2)
  go_loopw [6, 7] (fun a6 a7 wr => ∃ (A g : Nat) (I : List (Tr (h + 1))) (xs : List Value) (B : Nat), a7 = .pointer (some ⟨B, 0, none⟩) ∧ AI w t h (r.nx 0 A) I a6 xs B wr ∧ A ≤ t.size ∧ I.length ≤ A ∧ t.size + 1 ≤ A + g ∧ R = allR r g A I) (fun a6 _ _ => t.size + 1 - lnV a6)
  case atStart =>
    obtain ⟨h2, k2⟩ := H2.out
    have u3 := up_alloc w2 (pcO (r.nx 0 0))
    refine ⟨0, g0, [], [], w2.heap.size, rfl, ⟨h2.more5 u3, h2.lt, heap_alloc_new w2 _, LI.nil _ _ _, by simp [Value.ownBlock]⟩, Nat.zero_le _, Nat.zero_le _, by have := HG0.out; omega, HR.out⟩
  case round =>
    obtain ⟨A, g, I, xs, B, rfl, hI, hA, hIl, hg, hR⟩ := hrel
    obtain ⟨g, rfl⟩ : ∃ g', g = g' + 1 := ⟨g - 1, by omega⟩
    replace hR : R = (if (r.nx 0 A).k = 0 then .inr I else match r.dt (r.nx 0 A) with
      | .inl q => .inl q
      | .inr (_, _, tr, a') => allR r g a' (I ++ [tr])) := hR
    have hn := HOK.out.1 0 A hA
    have hdt := HOK.out.2.1 _ hn.1.1 hn.1.2.1 hn.1.2.2
    have KD := fun (W : World) (hW : RS w w.heap.size t (r.nx 0 A).a 0 W) => HD.out W (r.nx 0 A) hn.1.1 hn.1.2.1 hn.1.2.2 hW
    have KL := HL.out A
    obtain ⟨ao, cap, rfl⟩ := hI.li.shape
    generalize hq : r.nx 0 A = q at *
    have bx := hI.bx
    unfold pcO at bx
    obtain ⟨m0, m1, m2, m3, m4, m5, m6, m7, m8, m9, m10⟩ := cells11 bx
    have HI := hide hI
    have lI : (I.length : Int) ≤ 65536 := by omega
    clear hI bx hn
    by_cases c0 : q.k = 0
    · rw [if_pos c0] at hR
      subst hR
      have c0I : (q.k : Int) = 0 := by omega
      clear KD hdt KL
      go_wp2_with fail
      refine bodyPost_ret (by simp [results, Tryd.results12, go_sem]; rfl) rfl ?_
      obtain ⟨h1, h2⟩ := HI.out.li.fin
      exact ⟨HI.out.rs.up, ao, cap, rfl, h1.mono (fun _ _ hd => DatQ.keep (fun _ _ _ => rfl) (fun k _ hk => by omega) hd), h2.mono (fun k hk => by omega)⟩
    rw [if_neg c0] at hR
    have c0I : ¬ ((q.k : Int) = 0) := by omega
    cases hr : r.dt q with
    | inl q' =>
      rw [hr] at hR KD hdt
      replace hR : R = .inl q' := hR
      subst hR
      have hq11 : q'.k = 11 := hdt
      obtain ⟨tx, ty, tk, tdk, tn, ts, ter, ta⟩ := q'
      have hq11 : tk = 11 := hq11
      subst hq11
      unfold DPost pcP pcV at KD
      have HKD := hide KD
      clear KD hr hdt KL
      go_wp2_with (go_at_call 13; refine (HKD.out _ HI.out.rs).mono ?_; rintro e w6 ⟨k6, rfl, -, h6⟩; clear m0 m1 m2 m3 m4 m5 m6 m7 m8 m9 m10)
      go_region
      go_wp2_with fail
      refine bodyPost_ret (by simp [results, Tryd.results12, go_sem]; rfl) rfl ?_
      exact ⟨(h6.up.tr (up_alloc _ _)).tr (up_drew _), rfl⟩
    | inr v0 =>
      obtain ⟨x2, y2, tr, a2⟩ := v0
      rw [hr] at hR KD
      replace hR : R = allR r g a2 (I ++ [tr]) := hR
      have HRR := hide hR
      have hl2 := KL x2 y2 tr a2 hA hr
      have KN2 := fun (W : World) (hW : RS w w.heap.size t a2 0 W) => HN.out W a2 hl2.2 hW
      unfold DPost pcP pcV at KD
      unfold pcP pcV at KN2
      have HKD := hide KD
      have HKN := hide KN2
      clear KD hr hdt KL hR KN2
      go_wp2_with (first
        | (go_at_call 13; refine (HKD.out _ HI.out.rs).mono ?_; rintro e w6 ⟨k6, ck, cn, cb, j1, j2, j3, cs, i1, i2, i3, r1, r2, r3, rfl, hq6, h6⟩; clear m0 m1 m2 m3 m4 m5 m6 m7 m8 m9 m10; have hon := hq6.dat.onesR; have hrw := (HI.out.li.kr k6 (Nat.lt_succ_self _)).up (up_alloc w6 (.cells #[.int .i64 (x2 : Int), .int .i64 (y2 : Int), .int .i64 10, .int .i64 ck, .int .i64 cn, .bool cb, .slice j1 j2 j3, .string cs, .slice i1 i2 i3, .slice r1 r2 r3, .int .i64 0] 50)); have HON := hide hon; have HRW := hide hrw.own; have H6 := hide (And.intro k6 (And.intro h6 hq6)); clear h6 k6 hq6 hon hrw)
        | (at_builtin; refine wpList_append_lies _ rfl _ _ 29 rfl (w.heap.size + 1) 31 iD (.agg #[.int .i64 0, .int .i64 0, .bool false, .slice none 0 0, .string ⟨#[]⟩, .slice none 0 0, .slice none 0 0]) 7 112 Tryd.underlying29 hiD hz0 hz1 hz2 rfl (by decide) (.slice ao I.length cap) I.length _ rfl (HRW.out.alloc _) ⟨w6.heap.size + 1, 0, none⟩ 1 1 _ rfl rfl (hcellsU _ _ (by simp) _ _ _ _ _ _ _ _) HON.out (by decide) (by unfold maxLen; omega) (by omega) (by have := H6.out.2.1.lt; simp; omega) (w6.heap.size + 2) (by simp) ?_; intro g9 cap9 w9 hown9 hgrow9 hat9 _; have r9 := HI.out.snoc H6.out.1 H6.out.2.1 H6.out.2.2 hown9 hgrow9 hat9; have bx9 := r9.2.1; unfold pcO at bx9; obtain ⟨m0, m1, m2, m3, m4, m5, m6, m7, m8, m9, m10⟩ := cells11 bx9; have H9 := hide r9; clear hown9 hgrow9 hat9 r9 bx9)
        | (go_at_call 14; refine (HKN.out _ (H9.out.1.more5 (up_alloc _ _))).mono ?_; rintro e w10 ⟨rfl, h10, k10⟩; have b10 := k10.old (by have := H9.out.1.lt; omega) (heap_alloc_new w9 _); obtain ⟨f0, f1, f2, f3, f4, f5, f6, f7, f8, f9, f10⟩ := frozen11 b10; obtain ⟨n0, n1, n2, n3, n4, n5, n6, n7, n8, n9, n10⟩ := cells11 b10; have H10 := hide (And.intro h10 (And.intro k10 b10)); clear h10 k10 b10))
      obtain ⟨h10, k10, b10⟩ := H10.out
      obtain ⟨q1, q2⟩ := sto11 b10 (.int .i64 ((r.nx 0 a2).x : Int)) (.int .i64 ((r.nx 0 a2).y : Int)) (.int .i64 ((r.nx 0 a2).k : Int)) (.int .i64 ((r.nx 0 a2).dk : Int)) (.int .i64 ((r.nx 0 a2).n : Int)) (.bool false) (.slice none 0 0) (.string (r.nx 0 a2).s) (.slice none 0 0) (.slice none 0 0) (.int .i64 ((r.nx 0 a2).er : Int))
      clear f0 f1 f2 f3 f4 f5 f6 f7 f8 f9 f10 n0 n1 n2 n3 n4 n5 n6 n7 n8 n9 n10
      generalize (((((((((((w10.setCell ⟨w9.heap.size, 0, none⟩ (.int .i64 ((r.nx 0 a2).x : Int))).setCell ⟨w9.heap.size, 1, none⟩ (.int .i64 ((r.nx 0 a2).y : Int))).setCell ⟨w9.heap.size, 2, none⟩ (.int .i64 ((r.nx 0 a2).k : Int))).setCell ⟨w9.heap.size, 3, none⟩ (.int .i64 ((r.nx 0 a2).dk : Int))).setCell ⟨w9.heap.size, 4, none⟩ (.int .i64 ((r.nx 0 a2).n : Int))).setCell ⟨w9.heap.size, 5, none⟩ (.bool false)).setCell ⟨w9.heap.size, 6, none⟩ (.slice none 0 0)).setCell ⟨w9.heap.size, 7, none⟩ (.string (r.nx 0 a2).s)).setCell ⟨w9.heap.size, 8, none⟩ (.slice none 0 0)).setCell ⟨w9.heap.size, 9, none⟩ (.slice none 0 0)).setCell ⟨w9.heap.size, 10, none⟩ (.int .i64 ((r.nx 0 a2).er : Int))) = W11 at *
      refine ⟨⟨a2, g, I ++ [tr], _, w9.heap.size, rfl, AI.next H9.out.2.2 H9.out.1.lt rfl k10 h10 q2 q1, hl2.2, by rw [List.length_append, List.length_singleton]; omega, by omega, HRR.out⟩, ?_⟩
      show t.size + 1 - (I.length + 1) < t.size + 1 - I.length
      omega

end Go.Proofs.YteipogfolnlblaaDoor
