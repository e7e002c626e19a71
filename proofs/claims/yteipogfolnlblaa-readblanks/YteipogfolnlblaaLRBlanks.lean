/-
  What is proved here: tandemlaw05.ReadBlanks.
-/
import Derived.Test.YteipogfolnlblaaUDA
import Derived.Test.YteipogfolnlblaaUQ
import Derived.Test.YteipogfolnlblaaUI
import Derived.Test.YteipogfolnlblaaUJ
import Derived.Test.YteipogfolnlblaaLRDepths
namespace Go.Proofs.Yteipogfolnlblaa
open Go Go.RowKit

theorem cellUp {w w' : World} (u : Up w w') {p : Addr} {v : Value} (h : w.cell? p = some v) : w'.cell? p = some v := (u.cell (World.block_lt_of_cell? _ _ h)).trans h
/-- A list of texts, and one of numbers, that can be read. -/
def RdS (w : World) (ao : Option Addr) (n : Nat) (s : Nat → ByteArray) : Prop := n = 0 ∨ ∃ b off, ao = some ⟨b, off, none⟩ ∧ ∀ i, i < n → w.cell? ⟨b, off + i, none⟩ = some (.string (s i))
def RdI (w : World) (ao : Option Addr) (n : Nat) (s : Nat → Int) : Prop := n = 0 ∨ ∃ b off, ao = some ⟨b, off, none⟩ ∧ ∀ i, i < n → w.cell? ⟨b, off + i, none⟩ = some (.int .i64 (s i))
/-- All of a text, where it tells an error. -/
def AllBad (t : ByteArray) : Prop := ∃ x e0 : Int, ¬ (e0 = 0) ∧ ∀ W : World, Calls Try.prog 10 #[.string t] W fun e w' => Up W w' ∧ e = .returned (.tuple #[.slice none 0 0, .int .i64 x, .int .i64 e0])
def AllGood (h : Nat) (t : ByteArray) (J : List (Tr (h + 1 + 1))) : Prop := (∃ f g, allR (rdM t.data.toList f (h + 1)) g 0 [] = .inr J) ∧ J.length ≤ 100000 ∧ ∀ W : World, Calls Try.prog 10 #[.string t] W fun e w' => Up W w' ∧ ∃ ao cap, e = .returned (.tuple #[.slice ao J.length cap, .int .i64 0, .int .i64 0]) ∧ RowD w' (DatQ (fun k => W.heap.size ≤ k) w' (h + 1 + 1)) (.slice ao J.length cap) J
def gapO : Obj := .cells #[.string ⟨#[32]⟩, .string ⟨#[59, 32, 119, 111, 114, 100, 115, 10]⟩, .string ⟨#[35, 124, 32, 97, 32, 35, 124, 32, 98, 32, 124, 35, 32, 124, 35]⟩, .string ⟨#[35, 59, 40, 120, 32, 34, 121, 34, 41, 32]⟩, .string ⟨#[9, 13, 10]⟩] 9 (0, 0)
theorem cat_four (S : List UInt8) (t : ByteArray) (g : List UInt8) : (((⟨S.toArray⟩ : ByteArray) ++ t) ++ ⟨#[10]⟩) ++ ⟨g.toArray⟩ = ⟨(((S ++ t.data.toList) ++ [10]) ++ g).toArray⟩ := by
  apply ByteArray.ext
  simp [ByteArray.data_append]
theorem all_good2 {t : ByteArray} {w : World} {h : Nat} {R : LP ⊕ List (Tr (h + 1))} {J : List (Tr (h + 1))} (hR : R = .inr J) (h : Calls Try.prog 10 #[.string t] w fun e w' => AllPost w R e w') :
    Calls Try.prog 10 #[.string t] w fun e w' => Up w w' ∧ ∃ ao cap, e = .returned (.tuple #[.slice ao J.length cap, .int .i64 0, .int .i64 0]) ∧ RowD w' (DatQ (fun k => w.heap.size ≤ k) w' _) (.slice ao J.length cap) J := by
  subst hR
  refine h.mono ?_
  rintro e w' ⟨h1, ao, cap, rfl, h2, -⟩
  exact ⟨h1, ao, cap, rfl, h2⟩
/-- Blanks under way. -/
structure BI (w : World) (h : Nat) (i : Nat) (S : List UInt8) (I : List (Tr (h + 1 + 1))) (v : Value) (xs : List Value) (wr : World) : Prop where
  up : Up w wr
  li : LI w.heap.size (h + 1) I v xs wr
  le : I.length ≤ 100000 * i
  sl : S.length ≤ 2100 * i
  ok : ∃ L : List (List UInt8 × Nat × List (Tr (h + 1 + 1))), S = cats L ∧ I = L.flatMap (fun x => x.2.2) ∧ ∀ x ∈ L, ∃ f g, allR (rdM x.1 f (h + 1)) g 0 [] = .inr x.2.2
theorem BI.upw {w : World} {h i : Nat} {S : List UInt8} {I : List (Tr (h + 1 + 1))} {v : Value} {xs : List Value} {wr w' : World} (B : BI w h i S I v xs wr) (u : Up wr w') : BI w h (i + 1) S I v xs w' :=
  ⟨B.up.tr u, B.li.up u, by have := B.le; omega, by have := B.sl; omega, B.ok⟩
theorem BI.more {w : World} {h i k : Nat} {S : List UInt8} {I J : List (Tr (h + 1 + 1))} {v v' : Value} {xs news : List Value} {wr w2 w3 w4 : World} {t : ByteArray} (B : BI w h i S I v xs wr) (u : Up wr w2) (G : AllGood h t J) (ht : t.size ≤ 2000) (hn : ∀ i (hi : i < J.length), DatQ (fun k => wr.heap.size ≤ k) w2 (h + 1 + 1) J[i] (sv news i))
    (hown : w3.ownsRow w.heap.size 35 7 v' (I.length + J.length) (xs ++ news)) (hgrow : w2.grownBy w3 v.ownBlock) (hat : v'.ownBlock = v.ownBlock ∨ v'.ownBlock = some w2.heap.size) (u4 : Up w3 w4) : BI w h (i + 1) (((S ++ t.data.toList) ++ [10]) ++ gapB k) (I ++ J) v' (xs ++ news) w4 := by
  have hs := B.up.size
  have hl : t.data.toList.length = t.size := bytes_len t
  have hgl : (gapB k).length ≤ 15 := by
    match k with
    | 0 => decide
    | 1 => decide
    | 2 => decide
    | 3 => decide
    | k + 4 => show (3 : Nat) ≤ 15; decide
  have L3 := B.li.snocs hs u hn hown hgrow hat
  have us := u.size
  have up3 : Up w w3 := (B.up.tr u).grown hgrow (by omega) (fun b hb => (B.li.own.lt b hb).1)
  refine ⟨up3.tr u4, L3.up u4, by have := B.le; have := G.2.1; rw [List.length_append]; omega, by have := B.sl; simp only [List.length_append, List.length_singleton]; omega, ?_⟩
  obtain ⟨L, h1, h2, h3⟩ := B.ok
  refine ⟨L ++ [(t.data.toList, k, J)], by rw [cats_snoc, h1]; simp, by rw [h2]; simp, fun x hx => ?_⟩
  rw [List.mem_append] at hx
  rcases hx with hx | hx
  · exact h3 x hx
  · rw [List.mem_singleton] at hx
    subst hx
    exact G.1

set_option maxHeartbeats 32000000 in
set_option maxRecDepth 100000 in
theorem blanks_walk (h : Nat) (ao bo : Option Addr) (n cap m cap2 : Nat) (ts : Nat → ByteArray) (gs : Nat → Int) (w : World) (hs : RdS w ao n ts) (hg : RdI w bo m gs) (_hnc : n ≤ 9223372036854775807) (_hmc : m ≤ 9223372036854775807)
    (hA : ∀ t, AllBad t ∨ ∃ J, AllGood h t J)
    (hF : ∀ (S : List UInt8) (I : List (Tr (h + 1 + 1))) (W : World), S.length ≤ 65536 → (∃ f g, allR (rdM S f (h + 1)) g 0 [] = .inr I) → Calls Try.prog 10 #[.string ⟨S.toArray⟩] W fun e w' => Up W w' ∧ ∃ ao cap, e = .returned (.tuple #[.slice ao I.length cap, .int .i64 0, .int .i64 0]) ∧ RowD w' (DatC w' (h + 1 + 1)) (.slice ao I.length cap) I)
    (hQ : ∀ i, i < m → ∃ k : Nat, k < 5 ∧ ∀ W : World, Calls Try.prog 18 #[.int .i64 (gs i), .int .i64 5] W fun e w' => e = .returned (.int .i64 (k : Int)) ∧ w' = W) :
    Calls Try.prog 7 #[.slice ao n cap, .slice bo m cap2] w fun e w' => e = .returned (.bool true) ∧ Up w w' := by
  have HS := hide hs
  have HG := hide hg
  have HA := hide hA
  have HF := hide hF
  have HQ := hide hQ
  have hone : ∀ (V : World) (b : Tr (h + 1 + 1)) (cs : List Value), DatQ (fun k => V.heap.size ≤ k) V (h + 1 + 1) b cs → ∀ u ∈ cs, u.oneCell' = true := fun V b cs hd => hd.dat.onesR
  have HON := hide hone
  have K2 := fun (W : World) => awake_any W
  have HK2 := hide K2
  have KS := sameAll_all (h + 1 + 1)
  have HKS := hide KS
  clear hs hg hA hF hQ hone K2 KS
  go_enter Try.func7, Try.ntmps7
  go_wp2_with fail
  go_loopw [5, 6, 7] (fun a5 a6 a7 wr => ∃ (i : Nat) (S : List UInt8) (I : List (Tr (h + 1 + 1))) (xs : List Value), i ≤ 12 ∧ a7 = .int .i64 (i : Int) ∧ a5 = .string ⟨S.toArray⟩ ∧ BI w h i S I a6 xs wr) (fun _ _ a7 _ => 12 - (intOf a7).toNat)
  case atStart => exact ⟨0, [], [], [], Nat.zero_le _, rfl, rfl, ⟨Up.refl _, LI.nil _ _ _, Nat.zero_le _, Nat.zero_le _, [], rfl, rfl, fun x hx => by cases hx⟩⟩
  case round =>
    obtain ⟨i, S, I, xs, hi, rfl, rfl, hB⟩ := hrel
    obtain ⟨va, vc, rfl⟩ := hB.li.shape
    by_cases hlt : i < n ∧ i < 12
    · obtain ⟨hl1, hl2⟩ := hlt
      have hI1 : (i : Int) < (n : Int) := by omega
      have hI2 : (i : Int) < 12 := by omega
      obtain ⟨b, off, rfl, hcell⟩ := HS.out.resolve_left (by omega)
      have c1 := cellUp hB.up (hcell i hl1)
      have HC := hide (hcell i hl1)
      have HB := hide hB
      clear hcell hB
      generalize ts i = t at *
      rcases HA.out t with ⟨x, e0, he0, K1⟩ | ⟨J, hJ⟩
      · have HK1 := hide K1
        clear K1
        go_wp2_with (go_at_call 10; refine (HK1.out _).mono ?_; rintro e w2 ⟨u2, rfl⟩; have HU2 := hide u2; clear u2)
        refine ⟨⟨i + 1, S, I, xs, by omega, by go_num, rfl, HB.out.upw HU2.out⟩, ?_⟩
        simp [intOf]
        omega
      · have HJ := hide hJ
        clear hJ
        by_cases ht : t.size ≤ 2000
        · have htI : ¬ ((2000 : Int) < (t.size : Int)) := by omega
          have hbb : I.length + J.length ≤ 1000000000 := by have := HB.out.le; have := HJ.out.2.1; omega
          by_cases hm : i < m
          · have hmI : (i : Int) < (m : Int) := by omega
            obtain ⟨b2, off2, rfl, gcell⟩ := HG.out.resolve_left (by omega)
            have HC2 := hide (gcell i hm)
            obtain ⟨k, hk, KP⟩ := HQ.out i hm
            clear gcell
            generalize gs i = gi at *
            have hk5 : k = 0 ∨ k = 1 ∨ k = 2 ∨ k = 3 ∨ k = 4 := by omega
            rcases hk5 with rfl | rfl | rfl | rfl | rfl
            · have HKP := hide KP
              clear KP
              have e1 : (((⟨S.toArray⟩ : ByteArray) ++ t) ++ ⟨#[10]⟩) ++ ⟨(gapB 0).toArray⟩ = ⟨(((S ++ t.data.toList) ++ [10]) ++ gapB 0).toArray⟩ := cat_four S t _
              unfold gapB at e1
              have HE := hide e1
              clear e1
              have zS : (⟨S.toArray⟩ : ByteArray).size ≤ 30000 := by rw [size_arr]; have := HB.out.sl; omega
              generalize hSS : (⟨S.toArray⟩ : ByteArray) = SS at *
              have zA : ¬ 9223372036854775807 < SS.size + t.size := by omega
              have zB : ¬ 9223372036854775807 < SS.size + t.size + 1 := by omega
              have zC : ¬ 9223372036854775807 < SS.size + t.size + 1 + 1 := by omega
              go_wp2_with (first
                | (go_at_call 10; refine (HJ.out.2.2 _).mono ?_; rintro e w2 ⟨u2, ao2, cap2', rfl, r2⟩; have c2 := cellUp u2 c1; have H2 := hide (And.intro u2 r2); clear u2 r2 c1)
                | (at_builtin; refine app_row rfl _ _ rfl rfl rfl (HB.out.li.up H2.out.1).own H2.out.2 (fun b cs hd => hd.dat.onesR) hbb (by have := (HB.out.up.tr H2.out.1).size; omega) ?_; intro v' w3 news hn hown hgrow hat; obtain ⟨a1, a3, rfl⟩ : ∃ a1 a3, v' = .slice a1 (I.length + J.length) a3 := (by rcases hown.2 with ⟨e, e0⟩ | ⟨g, c, cur, e, _⟩; exact ⟨none, 0, by rw [e, e0]⟩; exact ⟨_, _, e⟩); have up3 : Up w w3 := (HB.out.up.tr H2.out.1).grown hgrow (by have := (HB.out.up.tr H2.out.1).size; omega) (fun b hb => (HB.out.li.own.lt b hb).1); have c4 := cellUp (up3.tr (up_drew _)) HC.out; have c6 := cellUp ((up3.tr (up_alloc _ gapO)).tr (up_drew _)) HC.out; unfold gapO at c6; have c5 := cellUp up3 HC2.out; have H3 := hide (And.intro hn (And.intro hown (And.intro hgrow hat))); clear hn hown hgrow hat up3 c2)
                | (go_at_call 18; refine (HKP.out _).mono ?_; rintro e w9 ⟨rfl, hw⟩; replace hw := hw.symm; subst hw))
              go_region
              go_wp2_with fail
              refine ⟨⟨i + 1, ((S ++ t.data.toList) ++ [10]) ++ gapB 0, I ++ J, xs ++ news, by omega, by go_num, congrArg Value.string HE.out, HB.out.more H2.out.1 HJ.out ht H3.out.1 H3.out.2.1 H3.out.2.2.1 H3.out.2.2.2 ((up_alloc _ _).tr (up_drew _))⟩, ?_⟩
              simp [intOf]
              omega
            · have HKP := hide KP
              clear KP
              have e1 : (((⟨S.toArray⟩ : ByteArray) ++ t) ++ ⟨#[10]⟩) ++ ⟨(gapB 1).toArray⟩ = ⟨(((S ++ t.data.toList) ++ [10]) ++ gapB 1).toArray⟩ := cat_four S t _
              unfold gapB at e1
              have HE := hide e1
              clear e1
              have zS : (⟨S.toArray⟩ : ByteArray).size ≤ 30000 := by rw [size_arr]; have := HB.out.sl; omega
              generalize hSS : (⟨S.toArray⟩ : ByteArray) = SS at *
              have zA : ¬ 9223372036854775807 < SS.size + t.size := by omega
              have zB : ¬ 9223372036854775807 < SS.size + t.size + 1 := by omega
              have zC : ¬ 9223372036854775807 < SS.size + t.size + 1 + 8 := by omega
              go_wp2_with (first
                | (go_at_call 10; refine (HJ.out.2.2 _).mono ?_; rintro e w2 ⟨u2, ao2, cap2', rfl, r2⟩; have c2 := cellUp u2 c1; have H2 := hide (And.intro u2 r2); clear u2 r2 c1)
                | (at_builtin; refine app_row rfl _ _ rfl rfl rfl (HB.out.li.up H2.out.1).own H2.out.2 (fun b cs hd => hd.dat.onesR) hbb (by have := (HB.out.up.tr H2.out.1).size; omega) ?_; intro v' w3 news hn hown hgrow hat; obtain ⟨a1, a3, rfl⟩ : ∃ a1 a3, v' = .slice a1 (I.length + J.length) a3 := (by rcases hown.2 with ⟨e, e0⟩ | ⟨g, c, cur, e, _⟩; exact ⟨none, 0, by rw [e, e0]⟩; exact ⟨_, _, e⟩); have up3 : Up w w3 := (HB.out.up.tr H2.out.1).grown hgrow (by have := (HB.out.up.tr H2.out.1).size; omega) (fun b hb => (HB.out.li.own.lt b hb).1); have c4 := cellUp (up3.tr (up_drew _)) HC.out; have c6 := cellUp ((up3.tr (up_alloc _ gapO)).tr (up_drew _)) HC.out; unfold gapO at c6; have c5 := cellUp up3 HC2.out; have H3 := hide (And.intro hn (And.intro hown (And.intro hgrow hat))); clear hn hown hgrow hat up3 c2)
                | (go_at_call 18; refine (HKP.out _).mono ?_; rintro e w9 ⟨rfl, hw⟩; replace hw := hw.symm; subst hw))
              go_region
              go_wp2_with fail
              refine ⟨⟨i + 1, ((S ++ t.data.toList) ++ [10]) ++ gapB 1, I ++ J, xs ++ news, by omega, by go_num, congrArg Value.string HE.out, HB.out.more H2.out.1 HJ.out ht H3.out.1 H3.out.2.1 H3.out.2.2.1 H3.out.2.2.2 ((up_alloc _ _).tr (up_drew _))⟩, ?_⟩
              simp [intOf]
              omega
            · have HKP := hide KP
              clear KP
              have e1 : (((⟨S.toArray⟩ : ByteArray) ++ t) ++ ⟨#[10]⟩) ++ ⟨(gapB 2).toArray⟩ = ⟨(((S ++ t.data.toList) ++ [10]) ++ gapB 2).toArray⟩ := cat_four S t _
              unfold gapB at e1
              have HE := hide e1
              clear e1
              have zS : (⟨S.toArray⟩ : ByteArray).size ≤ 30000 := by rw [size_arr]; have := HB.out.sl; omega
              generalize hSS : (⟨S.toArray⟩ : ByteArray) = SS at *
              have zA : ¬ 9223372036854775807 < SS.size + t.size := by omega
              have zB : ¬ 9223372036854775807 < SS.size + t.size + 1 := by omega
              have zC : ¬ 9223372036854775807 < SS.size + t.size + 1 + 15 := by omega
              go_wp2_with (first
                | (go_at_call 10; refine (HJ.out.2.2 _).mono ?_; rintro e w2 ⟨u2, ao2, cap2', rfl, r2⟩; have c2 := cellUp u2 c1; have H2 := hide (And.intro u2 r2); clear u2 r2 c1)
                | (at_builtin; refine app_row rfl _ _ rfl rfl rfl (HB.out.li.up H2.out.1).own H2.out.2 (fun b cs hd => hd.dat.onesR) hbb (by have := (HB.out.up.tr H2.out.1).size; omega) ?_; intro v' w3 news hn hown hgrow hat; obtain ⟨a1, a3, rfl⟩ : ∃ a1 a3, v' = .slice a1 (I.length + J.length) a3 := (by rcases hown.2 with ⟨e, e0⟩ | ⟨g, c, cur, e, _⟩; exact ⟨none, 0, by rw [e, e0]⟩; exact ⟨_, _, e⟩); have up3 : Up w w3 := (HB.out.up.tr H2.out.1).grown hgrow (by have := (HB.out.up.tr H2.out.1).size; omega) (fun b hb => (HB.out.li.own.lt b hb).1); have c4 := cellUp (up3.tr (up_drew _)) HC.out; have c6 := cellUp ((up3.tr (up_alloc _ gapO)).tr (up_drew _)) HC.out; unfold gapO at c6; have c5 := cellUp up3 HC2.out; have H3 := hide (And.intro hn (And.intro hown (And.intro hgrow hat))); clear hn hown hgrow hat up3 c2)
                | (go_at_call 18; refine (HKP.out _).mono ?_; rintro e w9 ⟨rfl, hw⟩; replace hw := hw.symm; subst hw))
              go_region
              go_wp2_with fail
              refine ⟨⟨i + 1, ((S ++ t.data.toList) ++ [10]) ++ gapB 2, I ++ J, xs ++ news, by omega, by go_num, congrArg Value.string HE.out, HB.out.more H2.out.1 HJ.out ht H3.out.1 H3.out.2.1 H3.out.2.2.1 H3.out.2.2.2 ((up_alloc _ _).tr (up_drew _))⟩, ?_⟩
              simp [intOf]
              omega
            · have HKP := hide KP
              clear KP
              have e1 : (((⟨S.toArray⟩ : ByteArray) ++ t) ++ ⟨#[10]⟩) ++ ⟨(gapB 3).toArray⟩ = ⟨(((S ++ t.data.toList) ++ [10]) ++ gapB 3).toArray⟩ := cat_four S t _
              unfold gapB at e1
              have HE := hide e1
              clear e1
              have zS : (⟨S.toArray⟩ : ByteArray).size ≤ 30000 := by rw [size_arr]; have := HB.out.sl; omega
              generalize hSS : (⟨S.toArray⟩ : ByteArray) = SS at *
              have zA : ¬ 9223372036854775807 < SS.size + t.size := by omega
              have zB : ¬ 9223372036854775807 < SS.size + t.size + 1 := by omega
              have zC : ¬ 9223372036854775807 < SS.size + t.size + 1 + 10 := by omega
              go_wp2_with (first
                | (go_at_call 10; refine (HJ.out.2.2 _).mono ?_; rintro e w2 ⟨u2, ao2, cap2', rfl, r2⟩; have c2 := cellUp u2 c1; have H2 := hide (And.intro u2 r2); clear u2 r2 c1)
                | (at_builtin; refine app_row rfl _ _ rfl rfl rfl (HB.out.li.up H2.out.1).own H2.out.2 (fun b cs hd => hd.dat.onesR) hbb (by have := (HB.out.up.tr H2.out.1).size; omega) ?_; intro v' w3 news hn hown hgrow hat; obtain ⟨a1, a3, rfl⟩ : ∃ a1 a3, v' = .slice a1 (I.length + J.length) a3 := (by rcases hown.2 with ⟨e, e0⟩ | ⟨g, c, cur, e, _⟩; exact ⟨none, 0, by rw [e, e0]⟩; exact ⟨_, _, e⟩); have up3 : Up w w3 := (HB.out.up.tr H2.out.1).grown hgrow (by have := (HB.out.up.tr H2.out.1).size; omega) (fun b hb => (HB.out.li.own.lt b hb).1); have c4 := cellUp (up3.tr (up_drew _)) HC.out; have c6 := cellUp ((up3.tr (up_alloc _ gapO)).tr (up_drew _)) HC.out; unfold gapO at c6; have c5 := cellUp up3 HC2.out; have H3 := hide (And.intro hn (And.intro hown (And.intro hgrow hat))); clear hn hown hgrow hat up3 c2)
                | (go_at_call 18; refine (HKP.out _).mono ?_; rintro e w9 ⟨rfl, hw⟩; replace hw := hw.symm; subst hw))
              go_region
              go_wp2_with fail
              refine ⟨⟨i + 1, ((S ++ t.data.toList) ++ [10]) ++ gapB 3, I ++ J, xs ++ news, by omega, by go_num, congrArg Value.string HE.out, HB.out.more H2.out.1 HJ.out ht H3.out.1 H3.out.2.1 H3.out.2.2.1 H3.out.2.2.2 ((up_alloc _ _).tr (up_drew _))⟩, ?_⟩
              simp [intOf]
              omega
            · have HKP := hide KP
              clear KP
              have e1 : (((⟨S.toArray⟩ : ByteArray) ++ t) ++ ⟨#[10]⟩) ++ ⟨(gapB 4).toArray⟩ = ⟨(((S ++ t.data.toList) ++ [10]) ++ gapB 4).toArray⟩ := cat_four S t _
              unfold gapB at e1
              have HE := hide e1
              clear e1
              have zS : (⟨S.toArray⟩ : ByteArray).size ≤ 30000 := by rw [size_arr]; have := HB.out.sl; omega
              generalize hSS : (⟨S.toArray⟩ : ByteArray) = SS at *
              have zA : ¬ 9223372036854775807 < SS.size + t.size := by omega
              have zB : ¬ 9223372036854775807 < SS.size + t.size + 1 := by omega
              have zC : ¬ 9223372036854775807 < SS.size + t.size + 1 + 3 := by omega
              go_wp2_with (first
                | (go_at_call 10; refine (HJ.out.2.2 _).mono ?_; rintro e w2 ⟨u2, ao2, cap2', rfl, r2⟩; have c2 := cellUp u2 c1; have H2 := hide (And.intro u2 r2); clear u2 r2 c1)
                | (at_builtin; refine app_row rfl _ _ rfl rfl rfl (HB.out.li.up H2.out.1).own H2.out.2 (fun b cs hd => hd.dat.onesR) hbb (by have := (HB.out.up.tr H2.out.1).size; omega) ?_; intro v' w3 news hn hown hgrow hat; obtain ⟨a1, a3, rfl⟩ : ∃ a1 a3, v' = .slice a1 (I.length + J.length) a3 := (by rcases hown.2 with ⟨e, e0⟩ | ⟨g, c, cur, e, _⟩; exact ⟨none, 0, by rw [e, e0]⟩; exact ⟨_, _, e⟩); have up3 : Up w w3 := (HB.out.up.tr H2.out.1).grown hgrow (by have := (HB.out.up.tr H2.out.1).size; omega) (fun b hb => (HB.out.li.own.lt b hb).1); have c4 := cellUp (up3.tr (up_drew _)) HC.out; have c6 := cellUp ((up3.tr (up_alloc _ gapO)).tr (up_drew _)) HC.out; unfold gapO at c6; have c5 := cellUp up3 HC2.out; have H3 := hide (And.intro hn (And.intro hown (And.intro hgrow hat))); clear hn hown hgrow hat up3 c2)
                | (go_at_call 18; refine (HKP.out _).mono ?_; rintro e w9 ⟨rfl, hw⟩; replace hw := hw.symm; subst hw))
              go_region
              go_wp2_with fail
              refine ⟨⟨i + 1, ((S ++ t.data.toList) ++ [10]) ++ gapB 4, I ++ J, xs ++ news, by omega, by go_num, congrArg Value.string HE.out, HB.out.more H2.out.1 HJ.out ht H3.out.1 H3.out.2.1 H3.out.2.2.1 H3.out.2.2.2 ((up_alloc _ _).tr (up_drew _))⟩, ?_⟩
              simp [intOf]
              omega
          · have hmI : ¬ ((i : Int) < (m : Int)) := by omega
            have e1 : (((⟨S.toArray⟩ : ByteArray) ++ t) ++ ⟨#[10]⟩) ++ ⟨(gapB 0).toArray⟩ = ⟨(((S ++ t.data.toList) ++ [10]) ++ gapB 0).toArray⟩ := cat_four S t _
            unfold gapB at e1
            have HE := hide e1
            clear e1
            have zS : (⟨S.toArray⟩ : ByteArray).size ≤ 30000 := by rw [size_arr]; have := HB.out.sl; omega
            generalize hSS : (⟨S.toArray⟩ : ByteArray) = SS at *
            have zA : ¬ 9223372036854775807 < SS.size + t.size := by omega
            have zB : ¬ 9223372036854775807 < SS.size + t.size + 1 := by omega
            have zC : ¬ 9223372036854775807 < SS.size + t.size + 1 + 1 := by omega
            go_wp2_with (first
              | (go_at_call 10; refine (HJ.out.2.2 _).mono ?_; rintro e w2 ⟨u2, ao2, cap2', rfl, r2⟩; have c2 := cellUp u2 c1; have H2 := hide (And.intro u2 r2); clear u2 r2 c1)
              | (at_builtin; refine app_row rfl _ _ rfl rfl rfl (HB.out.li.up H2.out.1).own H2.out.2 (fun b cs hd => hd.dat.onesR) hbb (by have := (HB.out.up.tr H2.out.1).size; omega) ?_; intro v' w3 news hn hown hgrow hat; obtain ⟨a1, a3, rfl⟩ : ∃ a1 a3, v' = .slice a1 (I.length + J.length) a3 := (by rcases hown.2 with ⟨e, e0⟩ | ⟨g, c, cur, e, _⟩; exact ⟨none, 0, by rw [e, e0]⟩; exact ⟨_, _, e⟩); have up3 : Up w w3 := (HB.out.up.tr H2.out.1).grown hgrow (by have := (HB.out.up.tr H2.out.1).size; omega) (fun b hb => (HB.out.li.own.lt b hb).1); have c4 := cellUp (up3.tr (up_drew _)) HC.out; have c6 := cellUp ((up3.tr (up_alloc _ gapO)).tr (up_drew _)) HC.out; unfold gapO at c6;  have H3 := hide (And.intro hn (And.intro hown (And.intro hgrow hat))); clear hn hown hgrow hat up3 c2))
            go_region
            go_wp2_with fail
            refine ⟨⟨i + 1, ((S ++ t.data.toList) ++ [10]) ++ gapB 0, I ++ J, xs ++ news, by omega, by go_num, congrArg Value.string HE.out, HB.out.more H2.out.1 HJ.out ht H3.out.1 H3.out.2.1 H3.out.2.2.1 H3.out.2.2.2 ((up_alloc _ _).tr (up_drew _))⟩, ?_⟩
            simp [intOf]
            omega
        · have htI : (2000 : Int) < (t.size : Int) := by omega
          go_wp2_with (go_at_call 10; refine (HJ.out.2.2 _).mono ?_; rintro e w2 ⟨u2, ao2, cap2', rfl, -⟩; have c2 := cellUp u2 c1; have HU2 := hide u2; clear u2 c1)
          refine ⟨⟨i + 1, S, I, xs, by omega, by go_num, rfl, HB.out.upw HU2.out⟩, ?_⟩
          simp [intOf]
          omega
    · have KF := HF.out S I wr (by have := hB.sl; omega) (by
        obtain ⟨L, h1, h2, h3⟩ := hB.ok
        rw [h1, h2]
        exact cats_all L h3)
      have HKF := hide KF
      have HB := hide hB
      clear KF hB
      by_cases hl1 : i < n
      · have hI1 : (i : Int) < (n : Int) := by omega
        have hI2 : ¬ ((i : Int) < 12) := by omega
        go_wp2_with (first
          | (go_at_call 10; refine HKF.out.mono ?_; rintro e w2 ⟨u2, ao2, cap3, rfl, r2⟩; have H2 := hide (And.intro u2 r2); clear u2 r2)
          | (go_at_call 12; refine (HKS.out I _ _ _ H2.out.2 ((HB.out.li.up H2.out.1).fin.1.mono fun _ _ hd => hd.dat)).mono ?_; rintro e w3 ⟨rfl, u3⟩; have HU3 := hide u3; clear u3)
          | (go_at_call 13; refine (HK2.out _).mono ?_; rintro e w4 ⟨rfl, u4⟩))
        go_ret
        exact ⟨rfl, ((HB.out.up.tr H2.out.1).tr HU3.out).tr u4⟩
      · have hI1 : ¬ ((i : Int) < (n : Int)) := by omega
        go_wp2_with (first
          | (go_at_call 10; refine HKF.out.mono ?_; rintro e w2 ⟨u2, ao2, cap3, rfl, r2⟩; have H2 := hide (And.intro u2 r2); clear u2 r2)
          | (go_at_call 12; refine (HKS.out I _ _ _ H2.out.2 ((HB.out.li.up H2.out.1).fin.1.mono fun _ _ hd => hd.dat)).mono ?_; rintro e w3 ⟨rfl, u3⟩; have HU3 := hide u3; clear u3)
          | (go_at_call 13; refine (HK2.out _).mono ?_; rintro e w4 ⟨rfl, u4⟩))
        go_ret
        exact ⟨rfl, ((HB.out.up.tr H2.out.1).tr HU3.out).tr u4⟩

theorem all_long2 (t : ByteArray) (w : World) (ht : 65536 < t.size) : Calls Try.prog 10 #[.string t] w fun e w' => Up w w' ∧ e = .returned (.tuple #[.slice none 0 0, .int .i64 0, .int .i64 2]) := by
  have hI : (65536 : Int) < (t.size : Int) := by omega
  go_enter Try.func10, Try.ntmps10
  go_wp2_with fail
  refine bodyPost_ret (by simp [results, Try.results10, go_sem]; rfl) rfl ?_
  exact ⟨Up.refl _, rfl⟩
theorem allR_len {T : List UInt8} {F h : Nat} (hF : 1 ≤ F) : ∀ (g a : Nat) (J : List (Tr (h + 1))), a ≤ T.length → allR (rdM T F h) g a [] = .inr J → J.length ≤ T.length - a
  | 0, a, J, ha, e => by cases e
  | g + 1, a, J, ha, e => by
    obtain ⟨g1, hg1, h1⟩ := allR_inv e
    obtain rfl : g = g1 := by omega
    rcases h1 with ⟨h0, rfl⟩ | ⟨h0, x, y, tr, a', J', h2, rfl, h3⟩
    · simp
    · have hl := nd_lt hF ha h2
      have := allR_len hF g a' J' hl.2.2 h3
      rw [List.length_cons]
      omega
/-- Whatever the text. -/
theorem all_cases (t : ByteArray) : AllBad t ∨ ∃ J, AllGood 99 t J := by
  by_cases ht : t.size ≤ 65536
  · have hl : t.data.toList.length = t.size := bytes_len t
    have h := fun (W : World) => all_fuel t (3 * t.size + 4) (t.size + 1) W ht (Nat.le_refl _) (Nat.le_refl _)
    match hR : allR (rdM t.data.toList (3 * t.size + 4) 100) (t.size + 1) 0 [] with
    | .inl q =>
      have hq : q.er ≠ 0 := allR_er (by rw [hl]; exact Nat.le_refl _) _ _ _ q (Nat.zero_le _) (by rw [hl]; exact Nat.le_refl _) hR
      exact .inl ⟨(q.x : Int), (q.er : Int), by omega, fun W => all_bad hR (h W)⟩
    | .inr J =>
      refine .inr ⟨J, ⟨_, _, hR⟩, ?_, fun W => ?_⟩
      · have := allR_len (by omega) _ _ _ (Nat.zero_le _) hR
        omega
      · exact all_good2 hR (h W)
  · exact .inl ⟨0, 2, by decide, fun W => all_long2 t W (by omega)⟩
theorem all_more (S : List UInt8) (I : List (Tr 101)) (W : World) (hS : S.length ≤ 65536) (he : ∃ f g, allR (rdM S f 100) g 0 [] = .inr I) : Calls Try.prog 10 #[.string ⟨S.toArray⟩] W fun e w' => Up W w' ∧ ∃ ao cap, e = .returned (.tuple #[.slice ao I.length cap, .int .i64 0, .int .i64 0]) ∧ RowD w' (DatC w' 101) (.slice ao I.length cap) I := by
  obtain ⟨f, g, e⟩ := he
  have ed : (⟨S.toArray⟩ : ByteArray).data.toList = S := rfl
  have h := all_fuel ⟨S.toArray⟩ (f + (3 * S.length + 4)) (g + (S.length + 1)) W (by rw [size_arr]; exact hS) (by rw [size_arr]; omega) (by rw [size_arr]; omega)
  rw [ed] at h
  exact all_good (allR_mono (by omega) g _ 0 I (Nat.zero_le _) (by omega) e) h
theorem readBlanks_any (ao bo : Option Addr) (n cap m cap2 : Nat) (ts : Nat → ByteArray) (gs : Nat → Int) (w : World) (hs : RdS w ao n ts) (hn : n ≤ cap ∧ cap ≤ 9223372036854775807) (hg : RdI w bo m gs) (hm : m ≤ cap2 ∧ cap2 ≤ 9223372036854775807) (hb : ∀ i, i < m → -9223372036854775808 ≤ gs i ∧ gs i ≤ 9223372036854775807) :
    Calls Try.prog 7 #[.slice ao n cap, .slice bo m cap2] w fun e w' => e = .returned (.bool true) ∧ Up w w' :=
  blanks_walk 99 ao bo n cap m cap2 ts gs w hs hg (by omega) (by omega) all_cases all_more (fun i hi => ⟨_, by omega, fun W => place_any (gs i) 5 W (by decide) (by decide) (hb i hi).1 (hb i hi).2⟩)

end Go.Proofs.Yteipogfolnlblaa
