/-
  What is proved here: package value's chain of data, where fixnums follow each other: up to their end, and where nothing may come any more.
-/
import Derived.Test.YtenkidbimhmkbaaVItems
namespace Go.Proofs.Ytenkidbimhmkbaa
open Go Go.RowKit

/-- From the word u 0 on K pairs follow each other, whose cars are fixnums. -/
structure Follows (f : Nat → Nat) (st : Nat → Bool) (u c : Nat → Nat) (z : Nat → Int) (K : Nat) : Prop where
  pair : ∀ k, k < K → shapeB (headOf f st (u k)) 1 2 0 = true
  car : ∀ k, k < K → fieldAt f st (u k) 0 = c k
  cdr : ∀ k, k < K → fieldAt f st (u k) 1 = u (k + 1)
  lt : ∀ k, u k < 18446744073709551616
  clt : ∀ k, c k < 18446744073709551616
  fix : ∀ k, c k % 4 = 1
  val : ∀ k, z k = intW (c k)

theorem ownsRow_fr {w1 w2 : World} {S : Nat → Prop} {base : Nat} {e : TypeId} {size : Nat} {v : Value} {n : Nat} {xs : List Value} (h : w1.ownsRow base e size v n xs) (F : Fr S w1 w2) (hS : ∀ j, base ≤ j → ¬ S j) : w2.ownsRow base e size v n xs := by
  refine ⟨h.1, ?_⟩
  rcases h.2 with e | ⟨g, cap, cur, e1, e2, e3, e4⟩
  · exact .inl e
  · exact .inr ⟨g, cap, cur, e1, e2, (F.block g (Array.getElem?_eq_some_iff.1 e3).1 (hS _ e2)).trans e3, e4⟩
theorem chainT_fr {w wr w5 w9 : World} {tb : Nat} {v : Value} {k : Nat} {xs : List Value} {o o' : Obj} (hrow : w5.ownsRow w.heap.size 73 7 v k xs) (F : Fr (fun j => j = tb) w wr) (F5 : Fr (fun j => j = tb) wr w5) (hg : ((w5.alloc o).alloc o').grownBy w9 v.ownBlock) : Fr (fun j => j = tb) w w9 :=
  (((Fr.trans F F5 (fun _ _ e => e)).alloc o).alloc o').grow hg (fun j hj e => by
    have := (hrow.lt j e).1
    omega)
theorem chainT_tak {w w5 w9 : World} {tb sb : Nat} {s : Int} {v : Value} {k : Nat} {xs : List Value} {o o' : Obj} (hrow : w5.ownsRow w.heap.size 73 7 v k xs) (T : TakAt w5 tb sb s) (hg : ((w5.alloc o).alloc o').grownBy w9 v.ownBlock) (htl : tb < w.heap.size) : TakAt w9 tb sb s := by
  have F : Fr (fun j => w.heap.size ≤ j) w5 w9 := (((Fr.refl _ w5).alloc o).alloc o').grow hg (fun j hj e => (hrow.lt j e).1)
  exact (F.block tb (Array.getElem?_eq_some_iff.1 T).1 (by omega)).trans T
theorem chainT_snoc {w wr w5 w9 : World} {tb : Nat} {v : Value} {k : Nat} {z : Nat → Int} {Ls : Nat → Nat} (hrow : w5.ownsRow w.heap.size 73 7 v k (itemsC z Ls k)) (hLs : ∀ i, i < k → Limbs wr (Ls i) (z i) ∧ w.heap.size ≤ Ls i) (F5 : Fr (fun j => j = tb) wr w5) (hs : w.heap.size ≤ wr.heap.size) (htl : tb < w.heap.size) {L : Nat} {zk : Int} (hL : Limbs w5 L zk) (hLL : wr.heap.size < L) (hz : zk = z k) {g cap : Nat} {o o' : Obj} (hown : w9.ownsRow w.heap.size 73 7 (.slice (some ⟨g, 0, none⟩) (k + 1) cap) (k + 1) (itemsC z Ls k ++ intC zk L)) (hg : ((w5.alloc o).alloc o').grownBy w9 v.ownBlock) : Items w w9 (.slice (some ⟨g, 0, none⟩) (k + 1) cap) (k + 1) z := by
  subst hz
  have FA : Fr (fun _ => False) w5 (w5.alloc o) := (Fr.refl _ w5).alloc o
  exact Items.snoc (hrow.alloc o) (fun i hi => ⟨(FA.block _ (Nat.lt_of_lt_of_le (Array.getElem?_eq_some_iff.1 (hLs i hi).1).1 F5.size) (fun e => e)).trans ((F5.block _ (Array.getElem?_eq_some_iff.1 (hLs i hi).1).1 (by have := (hLs i hi).2; omega)).trans (hLs i hi).1), (hLs i hi).2⟩) ((FA.block _ (Array.getElem?_eq_some_iff.1 hL).1 (fun e => e)).trans hL) (by omega) hown hg

set_option maxRecDepth 20000 in
set_option maxHeartbeats 8000000 in
theorem chainT_list (w : World) (tb sb hb : Nat) (X : Nat → Prop) (sz : Nat) (tm : Int) (n : Nat) (f : Nat → Nat) (st : Nat → Bool) (d : Int) (s K : Nat) (u c : Nat → Nat) (z : Nat → Int) (h : HeapAt w hb X sz tm n f st) (hS : w.cell? ⟨sb, 0, none⟩ = some (.pointer (some ⟨hb, 0, none⟩))) (hT : TakAt w tb sb (s : Int)) (htX : ¬ X tb) (hts : tb ≠ sb) (hd : d ≤ 100) (hs1 : s ≤ 20000) (hf : Follows f st u c z K) (hK : K ≤ s) (hend : shapeB (headOf f st (u K)) 1 2 0 = false) :
    Calls Try.prog 133 #[.pointer (some ⟨tb, 0, none⟩), .int .i64 d, .int .u64 (u 0 : Int)] w fun e w' => ∃ v, e = .returned (.tuple #[v, .int .u64 (u K : Int), .bool true]) ∧ Items w w' v K z ∧ TakAt w' tb sb ((s - K : Nat) : Int) ∧ Fr (fun j => j = tb) w w' := by
  obtain ⟨iD, hiD, hz0, hz1, hz2⟩ := info_parts infoD
  have hsl : sb < w.heap.size := World.block_lt_of_cell? _ _ hS
  have htl : tb < w.heap.size := (Array.getElem?_eq_some_iff.1 hT).1
  have KH : ∀ w1, Fr (fun k => k = tb) w w1 → HeapAt w1 hb X sz tm n f st ∧ w1.cell? ⟨sb, 0, none⟩ = some (.pointer (some ⟨hb, 0, none⟩)) := fun w1 F => ⟨h.fr F (fun k hk e => htX (e ▸ hk)), (F.cell hsl (fun e => hts e.symm)).trans hS⟩
  have HH := hide KH
  have HT := hide hT
  have HF := hide hf
  clear KH h hS hT hf
  go_enter Try.func133, Try.ntmps133
  go_wp2
  go_loopw [2, 6] (fun a2 a6 wr => ∃ k : Nat, k ≤ K ∧ a2 = .int .u64 (u k : Int) ∧ Items w wr a6 k z ∧ TakAt wr tb sb ((s - k : Nat) : Int) ∧ Fr (fun j => j = tb) w wr) (fun a2 _ wr => (intOf ((wr.cell? ⟨tb, 1, none⟩).getD (.int .i64 0))).toNat)
  case atStart => exact ⟨0, Nat.zero_le _, rfl, Items.nil _ _ _, HT.out, Fr.refl _ _⟩
  case round =>
    obtain ⟨k, hk, rfl, hI, hTk, hF⟩ := hrel
    have t0 := cell_of_row wr tb 0 _ _ _ hTk
    have t1 := cell_of_row wr tb 1 _ _ _ hTk
    obtain ⟨hH, hSk⟩ := HH.out wr hF
    by_cases hlt : k < K
    · have KP := isPair_any wr sb hb X sz tm n f st (u k) hH hSk (HF.out.lt k)
      rw [HF.out.pair k hlt] at KP
      have KC := fun q => vfield_any (wr.drewN q) sb hb X sz tm n f st (u k) 0 (hH.drewN q) hSk (HF.out.lt k)
      rw [HF.out.car k hlt] at KC
      have KD := fun q => datum_fix (wr.drewN q) tb sb hb X sz tm n f st (c k) d ((s - k : Nat) : Int) (z k) (hH.drewN q) hSk hTk htX hts (HF.out.clt k) hd (by omega) (by omega) (HF.out.fix k) (HF.out.val k)
      have KE := fun w1 (F1 : Fr (fun j => j = tb) w w1) => vfield_any w1 sb hb X sz tm n f st (u k) 1 (HH.out w1 F1).1 (HH.out w1 F1).2 (HF.out.lt k)
      rw [HF.out.cdr k hlt] at KE
      obtain ⟨Ls, hrow, hLs⟩ := hI
      obtain ⟨ao, cap, hv⟩ := Items.shape (show Items w wr _ k z from ⟨Ls, hrow, hLs⟩)
      subst hv
      have HP := hide KP
      have HC := hide KC
      have HD := hide KD
      have HE := hide KE
      have HLs := hide hLs
      have HR := hide hrow
      have HFr := hide hF
      have hss := hF.size
      obtain ⟨r, hr⟩ : ∃ r, r = s - k := ⟨_, rfl⟩
      obtain ⟨zk, hzk⟩ : ∃ zk, zk = z k := ⟨_, rfl⟩
      rw [← hr] at HD t1
      rw [← hzk] at HD
      have HZ := hide hzk
      have HRr := hide hr
      obtain ⟨uk, huk⟩ : ∃ uk, uk = u k := ⟨_, rfl⟩
      obtain ⟨ck, hck⟩ : ∃ ck, ck = c k := ⟨_, rfl⟩
      rw [← huk] at HP HC HE ⊢
      rw [← hck] at HC HD
      clear KP KC KD KE hLs hrow hF hr hzk huk hck hH hSk hTk
      go_wp2_with (first
        | (go_at_call 111; refine HP.out.mono ?_; rintro e w1 ⟨rfl, q1, rfl⟩)
        | (go_at_call 59; refine (HE.out _ HF7.out).mono ?_; rintro e w8 ⟨rfl, q8, rfl⟩)
        | (go_at_call 59; refine (HC.out _).mono ?_; rintro e w2 ⟨rfl, q2, hq2⟩; replace hq2 : w2 = wr.drewN (q1 + q2) := (by rw [hq2]; simp); subst hq2)
        | (go_at_call 78; refine (HD.out _).mono ?_; rintro e w5 ⟨L, rfl, L5, LL, T5, F5⟩; have T5' : TakAt (w5.alloc (.cells #[.int .i64 1, .int .i64 0, .bool (decide (zk < 0)), .slice (some ⟨L, 0, none⟩) (lenZ zk) 2, .string ⟨#[]⟩, .slice none 0 0, .slice none 0 0] 73)) tb sb ((r : Int) - 1) := (((Fr.refl (fun _ => False) w5).alloc _).block tb (Array.getElem?_eq_some_iff.1 T5).1 (fun e => e)).trans T5; have e0 := cell_of_row _ tb 0 _ _ _ T5'; have HL5 := hide L5; have HLL : Hid (wr.heap.size < L) := hide LL; have HT5 := hide T5; have F5' : Fr (fun j => j = tb) wr w5 := Fr.trans ((Fr.refl _ wr).drewN _) F5 (fun _ _ e => e); have HF5 := hide F5'; have hrw5 := ownsRow_fr HR.out F5' (fun j hj e => by omega); have hss5 := F5'.size; clear L5 LL T5 F5 F5' T5')
        | (at_builtin; refine wpList_append_lies _ rfl _ _ 71 rfl w.heap.size 73 iD (.agg #[.int .i64 0, .int .i64 0, .bool false, .slice none 0 0, .string ⟨#[]⟩, .slice none 0 0, .slice none 0 0]) 7 112 Try.underlying71 hiD hz0 hz1 hz2 rfl (by decide) _ k _ rfl ((hrw5.alloc _).alloc _) ⟨w5.heap.size + 1, 0, none⟩ 1 1 (intC zk L) rfl rfl (by have := hcells7 (w5.alloc (.cells #[.int .i64 1, .int .i64 0, .bool (decide (zk < 0)), .slice (some ⟨L, 0, none⟩) (lenZ zk) 2, .string ⟨#[]⟩, .slice none 0 0, .slice none 0 0] 73)) (.int .i64 1) (.int .i64 0) (.bool (decide (zk < 0))) (.slice (some ⟨L, 0, none⟩) (lenZ zk) 2) (.string ⟨#[]⟩) (.slice none 0 0) (.slice none 0 0) 73; rw [World.size_alloc] at this; exact this) (fun x hx => by simp [intC] at hx; rcases hx with rfl | rfl | rfl | rfl | rfl | rfl <;> rfl) (by decide) (by unfold maxLen; omega) (by omega) (by simp; omega) (w5.heap.size + 1 + 1) (by simp) ?_; intro g9 cap9 w9 hown9 hgrow9 _ hlt9; have I9 := hide (chainT_snoc (w := w) hrw5 HLs.out HF5.out hss htl HL5.out HLL.out HZ.out hown9 hgrow9); have F7 := chainT_fr (w := w) hrw5 HFr.out HF5.out hgrow9; have T9 := chainT_tak (w := w) (tb := tb) (sb := sb) hrw5 HT5.out hgrow9 htl; have HF7 := hide F7; have HT9 := hide T9; have g0 := cell_of_row w9 tb 0 _ _ _ T9; have g1 := cell_of_row w9 tb 1 _ _ _ T9; clear F7 T9 hown9 hgrow9 hlt9))
      have hr := HRr.out
      refine ⟨⟨k + 1, by omega, rfl, I9.out.fr ((Fr.refl (fun _ => False) w9).drewN q8) (fun _ _ e => e), ?_, HF7.out.drewN q8⟩, ?_⟩
      · have := HT9.out
        rw [show (r : Int) - 1 = ((s - (k + 1) : Nat) : Int) by omega] at this
        exact this
      · have h1 : (w9.drewN q8).cell? ⟨tb, 1, none⟩ = some (.int .i64 ((r : Int) - 1)) := g1
        rw [h1, t1]
        simp [intOf]
        omega
    · have hkK : k = K := by omega
      subst hkK
      have KP := isPair_any wr sb hb X sz tm n f st (u k) hH hSk (HF.out.lt k)
      rw [hend] at KP
      obtain ⟨ao, cap, hv⟩ := hI.shape
      subst hv
      have HP := hide KP
      have HI := hide hI
      have HTk := hide hTk
      have HFr := hide hF
      clear KP hI hTk hF
      go_wp2_with (go_at_call 111; refine HP.out.mono ?_; rintro e w1 ⟨rfl, q1, rfl⟩)
      go_ret3
      exact ⟨_, rfl, HI.out.fr ((Fr.refl (fun _ => False) wr).drewN q1) (fun _ _ e => e), HTk.out, HFr.out.drewN q1⟩

set_option maxRecDepth 20000 in
set_option maxHeartbeats 8000000 in
theorem chainT_ring (w : World) (tb sb hb : Nat) (X : Nat → Prop) (sz : Nat) (tm : Int) (n : Nat) (f : Nat → Nat) (st : Nat → Bool) (d : Int) (s K : Nat) (u c : Nat → Nat) (z : Nat → Int) (h : HeapAt w hb X sz tm n f st) (hS : w.cell? ⟨sb, 0, none⟩ = some (.pointer (some ⟨hb, 0, none⟩))) (hT : TakAt w tb sb (s : Int)) (htX : ¬ X tb) (hts : tb ≠ sb) (hd : d ≤ 100) (hs1 : s ≤ 20000) (hf : Follows f st u c z K) (hK : K = s) (hend : shapeB (headOf f st (u K)) 1 2 0 = true) (hcar : fieldAt f st (u K) 0 = c K) :
    Calls Try.prog 133 #[.pointer (some ⟨tb, 0, none⟩), .int .i64 d, .int .u64 (u 0 : Int)] w fun e w' => e = .returned (.tuple #[.slice none 0 0, .int .u64 0, .bool false]) ∧ Fr (fun j => j = tb) w w' := by
  obtain ⟨iD, hiD, hz0, hz1, hz2⟩ := info_parts infoD
  have hsl : sb < w.heap.size := World.block_lt_of_cell? _ _ hS
  have htl : tb < w.heap.size := (Array.getElem?_eq_some_iff.1 hT).1
  have KH : ∀ w1, Fr (fun k => k = tb) w w1 → HeapAt w1 hb X sz tm n f st ∧ w1.cell? ⟨sb, 0, none⟩ = some (.pointer (some ⟨hb, 0, none⟩)) := fun w1 F => ⟨h.fr F (fun k hk e => htX (e ▸ hk)), (F.cell hsl (fun e => hts e.symm)).trans hS⟩
  have HH := hide KH
  have HT := hide hT
  have HF := hide hf
  clear KH h hS hT hf
  go_enter Try.func133, Try.ntmps133
  go_wp2
  go_loopw [2, 6] (fun a2 a6 wr => ∃ k : Nat, k ≤ K ∧ a2 = .int .u64 (u k : Int) ∧ Items w wr a6 k z ∧ TakAt wr tb sb ((s - k : Nat) : Int) ∧ Fr (fun j => j = tb) w wr) (fun a2 _ wr => (intOf ((wr.cell? ⟨tb, 1, none⟩).getD (.int .i64 0))).toNat)
  case atStart => exact ⟨0, Nat.zero_le _, rfl, Items.nil _ _ _, HT.out, Fr.refl _ _⟩
  case round =>
    obtain ⟨k, hk, rfl, hI, hTk, hF⟩ := hrel
    have t0 := cell_of_row wr tb 0 _ _ _ hTk
    have t1 := cell_of_row wr tb 1 _ _ _ hTk
    obtain ⟨hH, hSk⟩ := HH.out wr hF
    by_cases hlt : k < K
    · have KP := isPair_any wr sb hb X sz tm n f st (u k) hH hSk (HF.out.lt k)
      rw [HF.out.pair k hlt] at KP
      have KC := fun q => vfield_any (wr.drewN q) sb hb X sz tm n f st (u k) 0 (hH.drewN q) hSk (HF.out.lt k)
      rw [HF.out.car k hlt] at KC
      have KD := fun q => datum_fix (wr.drewN q) tb sb hb X sz tm n f st (c k) d ((s - k : Nat) : Int) (z k) (hH.drewN q) hSk hTk htX hts (HF.out.clt k) hd (by omega) (by omega) (HF.out.fix k) (HF.out.val k)
      have KE := fun w1 (F1 : Fr (fun j => j = tb) w w1) => vfield_any w1 sb hb X sz tm n f st (u k) 1 (HH.out w1 F1).1 (HH.out w1 F1).2 (HF.out.lt k)
      rw [HF.out.cdr k hlt] at KE
      obtain ⟨Ls, hrow, hLs⟩ := hI
      obtain ⟨ao, cap, hv⟩ := Items.shape (show Items w wr _ k z from ⟨Ls, hrow, hLs⟩)
      subst hv
      have HP := hide KP
      have HC := hide KC
      have HD := hide KD
      have HE := hide KE
      have HLs := hide hLs
      have HR := hide hrow
      have HFr := hide hF
      have hss := hF.size
      obtain ⟨r, hr⟩ : ∃ r, r = s - k := ⟨_, rfl⟩
      obtain ⟨zk, hzk⟩ : ∃ zk, zk = z k := ⟨_, rfl⟩
      rw [← hr] at HD t1
      rw [← hzk] at HD
      have HZ := hide hzk
      have HRr := hide hr
      obtain ⟨uk, huk⟩ : ∃ uk, uk = u k := ⟨_, rfl⟩
      obtain ⟨ck, hck⟩ : ∃ ck, ck = c k := ⟨_, rfl⟩
      rw [← huk] at HP HC HE ⊢
      rw [← hck] at HC HD
      clear KP KC KD KE hLs hrow hF hr hzk huk hck hH hSk hTk
      go_wp2_with (first
        | (go_at_call 111; refine HP.out.mono ?_; rintro e w1 ⟨rfl, q1, rfl⟩)
        | (go_at_call 59; refine (HE.out _ HF7.out).mono ?_; rintro e w8 ⟨rfl, q8, rfl⟩)
        | (go_at_call 59; refine (HC.out _).mono ?_; rintro e w2 ⟨rfl, q2, hq2⟩; replace hq2 : w2 = wr.drewN (q1 + q2) := (by rw [hq2]; simp); subst hq2)
        | (go_at_call 78; refine (HD.out _).mono ?_; rintro e w5 ⟨L, rfl, L5, LL, T5, F5⟩; have T5' : TakAt (w5.alloc (.cells #[.int .i64 1, .int .i64 0, .bool (decide (zk < 0)), .slice (some ⟨L, 0, none⟩) (lenZ zk) 2, .string ⟨#[]⟩, .slice none 0 0, .slice none 0 0] 73)) tb sb ((r : Int) - 1) := (((Fr.refl (fun _ => False) w5).alloc _).block tb (Array.getElem?_eq_some_iff.1 T5).1 (fun e => e)).trans T5; have e0 := cell_of_row _ tb 0 _ _ _ T5'; have HL5 := hide L5; have HLL : Hid (wr.heap.size < L) := hide LL; have HT5 := hide T5; have F5' : Fr (fun j => j = tb) wr w5 := Fr.trans ((Fr.refl _ wr).drewN _) F5 (fun _ _ e => e); have HF5 := hide F5'; have hrw5 := ownsRow_fr HR.out F5' (fun j hj e => by omega); have hss5 := F5'.size; clear L5 LL T5 F5 F5' T5')
        | (at_builtin; refine wpList_append_lies _ rfl _ _ 71 rfl w.heap.size 73 iD (.agg #[.int .i64 0, .int .i64 0, .bool false, .slice none 0 0, .string ⟨#[]⟩, .slice none 0 0, .slice none 0 0]) 7 112 Try.underlying71 hiD hz0 hz1 hz2 rfl (by decide) _ k _ rfl ((hrw5.alloc _).alloc _) ⟨w5.heap.size + 1, 0, none⟩ 1 1 (intC zk L) rfl rfl (by have := hcells7 (w5.alloc (.cells #[.int .i64 1, .int .i64 0, .bool (decide (zk < 0)), .slice (some ⟨L, 0, none⟩) (lenZ zk) 2, .string ⟨#[]⟩, .slice none 0 0, .slice none 0 0] 73)) (.int .i64 1) (.int .i64 0) (.bool (decide (zk < 0))) (.slice (some ⟨L, 0, none⟩) (lenZ zk) 2) (.string ⟨#[]⟩) (.slice none 0 0) (.slice none 0 0) 73; rw [World.size_alloc] at this; exact this) (fun x hx => by simp [intC] at hx; rcases hx with rfl | rfl | rfl | rfl | rfl | rfl <;> rfl) (by decide) (by unfold maxLen; omega) (by omega) (by simp; omega) (w5.heap.size + 1 + 1) (by simp) ?_; intro g9 cap9 w9 hown9 hgrow9 _ hlt9; have I9 := hide (chainT_snoc (w := w) hrw5 HLs.out HF5.out hss htl HL5.out HLL.out HZ.out hown9 hgrow9); have F7 := chainT_fr (w := w) hrw5 HFr.out HF5.out hgrow9; have T9 := chainT_tak (w := w) (tb := tb) (sb := sb) hrw5 HT5.out hgrow9 htl; have HF7 := hide F7; have HT9 := hide T9; have g0 := cell_of_row w9 tb 0 _ _ _ T9; have g1 := cell_of_row w9 tb 1 _ _ _ T9; clear F7 T9 hown9 hgrow9 hlt9))
      have hr := HRr.out
      refine ⟨⟨k + 1, by omega, rfl, I9.out.fr ((Fr.refl (fun _ => False) w9).drewN q8) (fun _ _ e => e), ?_, HF7.out.drewN q8⟩, ?_⟩
      · have := HT9.out
        rw [show (r : Int) - 1 = ((s - (k + 1) : Nat) : Int) by omega] at this
        exact this
      · have h1 : (w9.drewN q8).cell? ⟨tb, 1, none⟩ = some (.int .i64 ((r : Int) - 1)) := g1
        rw [h1, t1]
        simp [intOf]
        omega
    · have hkK : k = K := by omega
      subst hkK
      have KP := isPair_any wr sb hb X sz tm n f st (u k) hH hSk (HF.out.lt k)
      rw [hend] at KP
      have KC := fun q => vfield_any (wr.drewN q) sb hb X sz tm n f st (u k) 0 (hH.drewN q) hSk (HF.out.lt k)
      rw [hcar] at KC
      have e0 : ((s - k : Nat) : Int) = 0 := by omega
      rw [e0] at hTk
      have KD := fun q => datum_none (wr.drewN q) tb sb (c k) d hTk hd
      obtain ⟨ao, cap, hv⟩ := hI.shape
      subst hv
      have HP := hide KP
      have HC := hide KC
      have HD := hide KD
      have HFr := hide hF
      clear KP KC KD hI hTk hF e0 t1 hH hSk
      generalize u k = uk at *
      generalize c k = ck at *
      go_wp2_with (first
        | (go_at_call 111; refine HP.out.mono ?_; rintro e w1 ⟨rfl, q1, rfl⟩)
        | (go_at_call 59; refine (HC.out _).mono ?_; rintro e w2 ⟨rfl, q2, hq2⟩; replace hq2 : w2 = wr.drewN (q1 + q2) := (by rw [hq2]; simp); subst hq2)
        | (go_at_call 78; refine (HD.out _).mono ?_; unfold zeroD; rintro e w5 ⟨rfl, F5⟩; have HF5 := hide (Fr.trans (HFr.out.drewN (q1 + q2)) F5 (fun _ _ e => e.elim)); clear F5))
      go_ret3
      exact ⟨rfl, HF5.out.alloc _⟩

end Go.Proofs.Ytenkidbimhmkbaa
