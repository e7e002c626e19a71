/-
  What is proved here: the statement ValueTexts' walk.
-/
import Derived.Test.YtenkidbimhmkbaaVTxt
import Derived.Test.YtenkidbimhmkbaaVAwake
namespace Go.Proofs.Ytenkidbimhmkbaa
open Go Go.RowKit

/-- A store with a heap, in new memory. -/
structure St (w w1 : World) (sb hb : Nat) (X : Nat → Prop) (sz n : Nat) (f : Nat → Nat) (st : Nat → Bool) : Prop where
  H : HeapAt w1 hb X sz 0 n f st
  S : w1.cell? ⟨sb, 0, none⟩ = some (.pointer (some ⟨hb, 0, none⟩))
  sX : ¬ X sb
  big : ∀ k, X k → w.heap.size ≤ k
  F : Fr (fun _ => False) w w1
theorem St.fr {w w1 w2 : World} {sb hb : Nat} {X : Nat → Prop} {sz n : Nat} {f : Nat → Nat} {st : Nat → Bool} (h : St w w1 sb hb X sz n f st) (F : Fr (fun _ => False) w1 w2) : St w w2 sb hb X sz n f st :=
  ⟨h.H.fr F (fun _ _ e => e), (F.cell (World.block_lt_of_cell? _ _ h.S) (fun e => e)).trans h.S, h.sX, h.big, Fr.trans h.F F (fun _ _ e => e)⟩
theorem St.turn {w w1 w2 : World} {sb hb : Nat} {X X2 : Nat → Prop} {sz n n2 : Nat} {f f2 : Nat → Nat} {st st2 : Nat → Bool} (h : St w w1 sb hb X sz n f st) (H : HeapAt w2 hb X2 sz 0 n2 f2 st2) (G : Grows w1.heap.size X X2) (F : Fr X w1 w2) : St w w2 sb hb X2 sz n2 f2 st2 := by
  have hsl : sb < w1.heap.size := World.block_lt_of_cell? _ _ h.S
  have s1 := h.F.size
  refine ⟨H, (F.cell hsl h.sX).trans h.S, fun e => ?_, fun k hk => ?_, Fr.trans h.F F (fun k hk e => by have := h.big k e; omega)⟩
  · rcases G sb e with e | e
    · exact h.sX e
    · omega
  · rcases G k hk with e | e
    · exact h.big k e
    · omega

/-- The words behind a new text. -/
def textF (f : Nat → Nat) (n : Nat) (g : Nat → Nat) (m : Nat) : Nat → Nat := tagF f n (hOf 3 0 (1 + (m + 7) / 8)) (textW g m) (1 + (m + 7) / 8)
theorem st_text {w w1 : World} {sb hb : Nat} {X : Nat → Prop} {sz n : Nat} {f : Nat → Nat} {st : Nat → Bool} (h : St w w1 sb hb X sz n f st) {v : Value} {base m : Nat} {g : Nat → Nat} (ho : Own .u8 5 w1 base v m g) (hX : ∀ k, X k → k < base) (hg : ∀ i, i < m → g i < 256) (hm : m ≤ 3000) (n2 p : Nat) (hn2 : n2 = n + 1 + 0 + (1 + (m + 7) / 8)) (hp : p = 4 * n) (hroom : n2 ≤ sz) :
    Calls Try.prog 17 #[.pointer (some ⟨sb, 0, none⟩), v] w1 fun e w' => e = .returned (.tuple #[.int .u64 (p : Int), .bool true]) ∧ ∃ X2, St w w' sb hb X2 sz n2 (textF f n g m) (also st n) := by
  subst hn2 hp
  refine (text_own w1 sb hb X sz 0 n f st v base m g h.H h.S h.sX ho hX hg (by omega) hroom).mono fun e w' he => ?_
  obtain ⟨e1, X2, H2, G2, F2⟩ := he
  exact ⟨e1, X2, h.turn H2 G2 F2⟩

set_option maxRecDepth 20000 in
set_option maxHeartbeats 8000000 in
theorem valueTexts_short (w : World) (ao : Option Addr) (m cap : Nat) (g : Nat → Nat) (hr : RdB w (.slice ao m cap) m g) (hg : ∀ i, i < m → g i < 256) (hm0 : m ≤ 3000) :
    Calls Try.prog 8 #[.slice ao m cap] w fun e w' => e = .returned (.bool true) ∧ Below w.heap.size w w' := by
  have hmI : ¬ (3000 < (m : Int)) := by omega
  have hm : m ≤ 3000 := by omega
  obtain ⟨n2, hn2⟩ : ∃ n2, n2 = 1 + 1 + 0 + (1 + (m + 7) / 8) := ⟨_, rfl⟩
  obtain ⟨n3, hn3⟩ : ∃ n3, n3 = n2 + 1 + 0 + (1 + (m + 7) / 8) := ⟨_, rfl⟩
  obtain ⟨y, hy⟩ : ∃ y, y = 4 * n2 := ⟨_, rfl⟩
  have hyl : y < 18446744073709551616 := by omega
  have hy4 : 4 ≠ y := by omega
  have hyI : ((4 : Int) != (y : Int)) = true := by rw [bne_iff_ne]; omega
  have hr3 : n3 ≤ 2000 := by omega
  have KC := fun (w1 : World) (F : Fr (fun _ => False) w w1) => (hr.fr F).copy (by omega)
  have KN := vnew_ok 2000 w (by decide) (by decide)
  have kcv := fun (w1 : World) (F : Fr (fun _ => False) w w1) => (hr.fr F).conv
  have ty : TextAt (textF (textF (fun _ => 0) 1 g m) n2 g m) (also (also (fun _ => false) 1) n2) y g m := by
    rw [hy]
    exact textAt_new hg (by omega)
  have tx : TextAt (textF (textF (fun _ => 0) 1 g m) n2 g m) (also (also (fun _ => false) 1) n2) 4 g m := (textAt_new (n := 1) hg (by omega)).later (by omega)
  have HR := hide hr
  have HG := hide hg
  have HC := hide KC
  have HCV := hide kcv
  have HN2 := hide hn2
  have HN3 := hide hn3
  have HY := hide hy
  have TX := hide tx
  have TY := hide ty
  clear hr hg KC kcv hn2 hn3 hy tx ty
  go_enter Try.func8, Try.ntmps8
  go_wp2_with (first
    | (go_at_call 15; refine KN.mono ?_; rintro e w1 ⟨sb, hb, X1, mb, rfl, S1, M1, B1, s1, m1, F1⟩; have HS1 : Hid (St w w1 sb hb X1 2000 1 (fun _ => 0) (fun _ => false)) := hide ⟨S1.H, S1.cells.1, S1.sX, B1, F1⟩; clear S1 M1 B1 s1 m1 F1 KN)
    | (go_at_call 38; refine (HC.out _ HS3.out.F).mono ?_; rintro e w4 ⟨v4, rfl, O4, F4⟩; have HS4 := hide (HS3.out.fr F4); have HO4 := hide O4; have HX4 : Hid (∀ k, X3 k → k < w3.heap.size) := hide (fun k hk => HS3.out.H.lt hk); clear O4 F4)
    | (go_at_call 38; refine (HC.out _ HS1.out.F).mono ?_; rintro e w2 ⟨v2, rfl, O2, F2⟩; have HS2 := hide (HS1.out.fr F2); have HO2 := hide O2; have HX2 : Hid (∀ k, X1 k → k < w1.heap.size) := hide (fun k hk => HS1.out.H.lt hk); clear O2 F2)
    | (go_at_call 17; refine (st_text HS4.out HO4.out HX4.out HG.out hm n3 y HN3.out HY.out hr3).mono ?_; rintro e w5 ⟨rfl, X5, S5⟩; have HS5 := hide S5; clear S5)
    | (go_at_call 17; refine (st_text HS2.out HO2.out HX2.out HG.out hm n2 4 HN2.out rfl (by have := HN3.out; omega)).mono ?_; rintro e w3 ⟨rfl, X3, S3⟩; have HS3 := hide S3; clear S3)
    | (go_at_call 39; refine (bytes_yes w5 sb hb X5 2000 0 n3 _ _ 4 g m HS5.out.H HS5.out.S (by decide) TX.out).mono ?_; rintro e w6 ⟨v6, rfl, O6, ⟨b6, cap6, rfl, hc6⟩, F6⟩; have HS6 := hide (HS5.out.fr F6); have HR6 := hide (Own.rdB O6); clear O6 F6)
    | (go_at_call 40; refine (equalS_text w6 sb hb X5 2000 0 n3 _ _ 4 y g m HS6.out.H HS6.out.S (by decide) hyl hy4 TX.out TY.out).mono ?_; rintro e w7 ⟨rfl, F7⟩; have HS7 := hide (HS6.out.fr F7); have HR7 := hide (HR6.out.fr F7); clear F7)
    | (go_at_call 36; refine (take_text w7 sb hb X5 2000 0 n3 _ _ 4 g m HS7.out.H HS7.out.S (by decide) TX.out).mono ?_; rintro e w8 ⟨rfl, F8⟩; have HS9 := hide ((HS7.out.fr F8).fr ((Fr.refl _ w8).alloc (.cells #[.int .i64 4, .int .i64 0, .bool false, .slice none 0 0, .string (strG g m), .slice none 0 0, .slice none 0 0] 73))); have HR9 := hide ((HR7.out.fr F8).fr ((Fr.refl _ w8).alloc (.cells #[.int .i64 4, .int .i64 0, .bool false, .slice none 0 0, .string (strG g m), .slice none 0 0, .slice none 0 0] 73))); have d4 : (w8.alloc (.cells #[.int .i64 4, .int .i64 0, .bool false, .slice none 0 0, .string (strG g m), .slice none 0 0, .slice none 0 0] 73)).cell? ⟨w8.heap.size, 4, none⟩ = some (.string (strG g m)) := (cells7 (heap_alloc_new w8 (.cells #[.int .i64 4, .int .i64 0, .bool false, .slice none 0 0, .string (strG g m), .slice none 0 0, .slice none 0 0] 73))).2.2.2.2.1; clear F8)
    | (go_at_call 41; refine (sameB_any _ _ m _ _ g _ HR9.out (HR.out.fr HS9.out.F)).mono ?_; rintro e w9 ⟨rfl, hw⟩; replace hw := hw.symm; subst hw)
    | (go_at_call 25; refine (eqv_no _ sb hb X5 2000 0 n3 _ _ 4 y HS9.out.H HS9.out.S (by decide) hy4 (by rw [TX.out.hd, hKind_of (by decide)]; decide)).mono ?_; rintro e w9 ⟨rfl, q9, rfl⟩; have kcv := HCV.out _ (HS9.out.F.drewN q9); have FF := HS9.out.F.drewN q9)
    | (go_at_call 14; refine (vawake_any _).mono ?_; rintro e wa ⟨rfl, Fa⟩))
  go_ret
  exact ⟨rfl, (Fr.trans FF Fa (fun _ _ e => e)).below (Nat.le_refl _) (fun _ _ e => e)⟩

set_option maxRecDepth 20000 in
set_option maxHeartbeats 8000000 in
theorem valueTexts_long (w : World) (b off L cap : Nat) (g : Nat → Nat) (hr : RdB w (.slice (some ⟨b, off, none⟩) 3000 cap) 3000 g) (hg : ∀ i, i < 3000 → g i < 256) (hL : 3000 < L) (hLc : L ≤ cap) :
    Calls Try.prog 8 #[.slice (some ⟨b, off, none⟩) L cap] w fun e w' => e = .returned (.bool true) ∧ Below w.heap.size w w' := by
  have hmI : (3000 : Int) < (L : Int) := by omega
  have hcI : (3000 : Int) ≤ (cap : Int) := by omega
  have hm : 3000 ≤ 3000 := by omega
  obtain ⟨n2, hn2⟩ : ∃ n2, n2 = 1 + 1 + 0 + (1 + (3000 + 7) / 8) := ⟨_, rfl⟩
  obtain ⟨n3, hn3⟩ : ∃ n3, n3 = n2 + 1 + 0 + (1 + (3000 + 7) / 8) := ⟨_, rfl⟩
  obtain ⟨y, hy⟩ : ∃ y, y = 4 * n2 := ⟨_, rfl⟩
  have hyl : y < 18446744073709551616 := by omega
  have hy4 : 4 ≠ y := by omega
  have hyI : ((4 : Int) != (y : Int)) = true := by rw [bne_iff_ne]; omega
  have hr3 : n3 ≤ 2000 := by omega
  have KC := fun (w1 : World) (F : Fr (fun _ => False) w w1) => (hr.fr F).copy (by omega)
  have KN := vnew_ok 2000 w (by decide) (by decide)
  have kcv := fun (w1 : World) (F : Fr (fun _ => False) w w1) => (hr.fr F).conv
  have ty : TextAt (textF (textF (fun _ => 0) 1 g 3000) n2 g 3000) (also (also (fun _ => false) 1) n2) y g 3000 := by
    rw [hy]
    exact textAt_new hg (by omega)
  have tx : TextAt (textF (textF (fun _ => 0) 1 g 3000) n2 g 3000) (also (also (fun _ => false) 1) n2) 4 g 3000 := (textAt_new (n := 1) hg (by omega)).later (by omega)
  have HR := hide hr
  have HG := hide hg
  have HC := hide KC
  have HCV := hide kcv
  have HN2 := hide hn2
  have HN3 := hide hn3
  have HY := hide hy
  have TX := hide tx
  have TY := hide ty
  clear hr hg KC kcv hn2 hn3 hy tx ty
  go_enter Try.func8, Try.ntmps8
  go_wp2_with (first
    | (go_at_call 15; refine KN.mono ?_; rintro e w1 ⟨sb, hb, X1, mb, rfl, S1, M1, B1, s1, m1, F1⟩; have HS1 : Hid (St w w1 sb hb X1 2000 1 (fun _ => 0) (fun _ => false)) := hide ⟨S1.H, S1.cells.1, S1.sX, B1, F1⟩; clear S1 M1 B1 s1 m1 F1 KN)
    | (go_at_call 38; refine (HC.out _ HS3.out.F).mono ?_; rintro e w4 ⟨v4, rfl, O4, F4⟩; have HS4 := hide (HS3.out.fr F4); have HO4 := hide O4; have HX4 : Hid (∀ k, X3 k → k < w3.heap.size) := hide (fun k hk => HS3.out.H.lt hk); clear O4 F4)
    | (go_at_call 38; refine (HC.out _ HS1.out.F).mono ?_; rintro e w2 ⟨v2, rfl, O2, F2⟩; have HS2 := hide (HS1.out.fr F2); have HO2 := hide O2; have HX2 : Hid (∀ k, X1 k → k < w1.heap.size) := hide (fun k hk => HS1.out.H.lt hk); clear O2 F2)
    | (go_at_call 17; refine (st_text HS4.out HO4.out HX4.out HG.out hm n3 y HN3.out HY.out hr3).mono ?_; rintro e w5 ⟨rfl, X5, S5⟩; have HS5 := hide S5; clear S5)
    | (go_at_call 17; refine (st_text HS2.out HO2.out HX2.out HG.out hm n2 4 HN2.out rfl (by have := HN3.out; omega)).mono ?_; rintro e w3 ⟨rfl, X3, S3⟩; have HS3 := hide S3; clear S3)
    | (go_at_call 39; refine (bytes_yes w5 sb hb X5 2000 0 n3 _ _ 4 g 3000 HS5.out.H HS5.out.S (by decide) TX.out).mono ?_; rintro e w6 ⟨v6, rfl, O6, ⟨b6, cap6, rfl, hc6⟩, F6⟩; have HS6 := hide (HS5.out.fr F6); have HR6 := hide (Own.rdB O6); clear O6 F6)
    | (go_at_call 40; refine (equalS_text w6 sb hb X5 2000 0 n3 _ _ 4 y g 3000 HS6.out.H HS6.out.S (by decide) hyl hy4 TX.out TY.out).mono ?_; rintro e w7 ⟨rfl, F7⟩; have HS7 := hide (HS6.out.fr F7); have HR7 := hide (HR6.out.fr F7); clear F7)
    | (go_at_call 36; refine (take_text w7 sb hb X5 2000 0 n3 _ _ 4 g 3000 HS7.out.H HS7.out.S (by decide) TX.out).mono ?_; rintro e w8 ⟨rfl, F8⟩; have HS9 := hide ((HS7.out.fr F8).fr ((Fr.refl _ w8).alloc (.cells #[.int .i64 4, .int .i64 0, .bool false, .slice none 0 0, .string (strG g 3000), .slice none 0 0, .slice none 0 0] 73))); have HR9 := hide ((HR7.out.fr F8).fr ((Fr.refl _ w8).alloc (.cells #[.int .i64 4, .int .i64 0, .bool false, .slice none 0 0, .string (strG g 3000), .slice none 0 0, .slice none 0 0] 73))); have d4 : (w8.alloc (.cells #[.int .i64 4, .int .i64 0, .bool false, .slice none 0 0, .string (strG g 3000), .slice none 0 0, .slice none 0 0] 73)).cell? ⟨w8.heap.size, 4, none⟩ = some (.string (strG g 3000)) := (cells7 (heap_alloc_new w8 (.cells #[.int .i64 4, .int .i64 0, .bool false, .slice none 0 0, .string (strG g 3000), .slice none 0 0, .slice none 0 0] 73))).2.2.2.2.1; clear F8)
    | (go_at_call 41; refine (sameB_any _ _ 3000 _ _ g _ HR9.out (HR.out.fr HS9.out.F)).mono ?_; rintro e w9 ⟨rfl, hw⟩; replace hw := hw.symm; subst hw)
    | (go_at_call 25; refine (eqv_no _ sb hb X5 2000 0 n3 _ _ 4 y HS9.out.H HS9.out.S (by decide) hy4 (by rw [TX.out.hd, hKind_of (by decide)]; decide)).mono ?_; rintro e w9 ⟨rfl, q9, rfl⟩; have kcv := HCV.out _ (HS9.out.F.drewN q9); have FF := HS9.out.F.drewN q9)
    | (go_at_call 14; refine (vawake_any _).mono ?_; rintro e wa ⟨rfl, Fa⟩))
  go_ret
  exact ⟨rfl, (Fr.trans FF Fa (fun _ _ e => e)).below (Nat.le_refl _) (fun _ _ e => e)⟩

theorem valueTexts_walk (w : World) (v : Value) (L : Nat) (g : Nat → Nat) (hr : RdB w v L g) (hg : ∀ i, i < L → g i < 256) :
    Calls Try.prog 8 #[v] w fun e w' => e = .returned (.bool true) ∧ Below w.heap.size w w' := by
  by_cases hL : L ≤ 3000
  · obtain ⟨ao, cap, rfl⟩ := hr.shape
    exact valueTexts_short w ao L cap g hr hg hL
  · rcases hr with ⟨_, e⟩ | ⟨_, _, _, e⟩ | ⟨b, off, cap, rfl, e2, e3⟩
    · omega
    · omega
    · exact valueTexts_long w b off L cap g (.inr (.inr ⟨b, off, cap, rfl, by omega, fun i hi => e3 i (by omega)⟩)) (fun i hi => hg i (by omega)) (by omega) e2

end Go.Proofs.Ytenkidbimhmkbaa
