/-
  What is proved here: HeapDrops answers true for every script and every two numbers, and turns nothing that was there.
-/
import Derived.Test.YtfeofdeffmnbkaaHGrown
namespace Go.Proofs.Ytfeofdeffmnbkaa
open Go Go.RowKit

theorem coll_none (n : Nat) (f : Nat → Nat) (st : Nat → Bool) (r : Nat → Nat) : collS n f st r 0 = MS.zero := by
  unfold collS rootsS
  cases n with
  | zero => rfl
  | succ d =>
    unfold scanS
    rw [if_neg (by show ¬ (1 : Nat) < 1; omega)]

set_option maxRecDepth 20000 in
set_option maxHeartbeats 10000000 in
theorem heapDrops_walk (x0 x2 : Int) (ao : Option Addr) (N cap L : Nat) (w : World) (hs : OpsIn w ao N L) (hN : N ≤ 1048576) (hL : L ≤ 1048576) (hc : N ≤ cap) (h01 : -9223372036854775808 ≤ x0) (h02 : x0 ≤ 9223372036854775807) (h21 : -9223372036854775808 ≤ x2) (h22 : x2 ≤ 9223372036854775807) :
    Calls Try.prog 9 #[.int .i64 x0, .slice ao N cap, .int .i64 x2] w fun e w' => e = .returned (.bool true) ∧ Below w.heap.size w w' := by
  have KG := grown_any (fun _ _ _ _ _ => True) x0 ao N cap L w (fun _ => ⟨trivial, fun _ _ _ _ _ _ _ _ _ _ _ _ _ _ _ _ _ _ _ => trivial⟩) hs hN hL ⟨h01, h02⟩ hc
  have HG := hide KG
  clear KG hs h01 h02
  go_enter Try.func9, Try.ntmps9
  go_wp2_with (first
    | (go_at_call 15; refine HG.out.mono ?_; rintro e w1 ⟨ob, hb, rb, sz, tm, n, f, st, m, o, rfl, hO, hF, ht1, ht2, hm, hs1, hs2, -⟩; obtain ⟨X, Y, vO, h, bX, bY, bo, bO⟩ := hO; have c0 := h.cells.1; have HO := hide h; have HF := hide hF; have KC := collect_any w1 hb X sz tm n f st none 0 0 (fun _ => 0) h.H ht1 (by omega) (.inl rfl) (fun k hk => by omega) (by omega) (by omega) (by omega); rw [coll_none] at KC; have HC := hide KC; obtain ⟨K, hK⟩ : ∃ K : Nat, sz = K + 2 := ⟨sz - 2, by omega⟩; have hKI : (sz : Int) - 2 = (K : Int) := (by omega); obtain ⟨J, hJ⟩ : ∃ J : Nat, J = K + 1 := ⟨_, rfl⟩; have hJI : (K : Int) + 1 = (J : Int) := (by omega); have HK := hide (And.intro hK hJ); have hKl : K ≤ 561 := (by omega); have hJl : J ≤ 562 := (by omega); clear h hF KC HG hK hJ)
    | (go_at_call 18; refine HC.out.mono ?_; rintro e w2 ⟨gm, X2, rfl, hgm, R2, nX2, H2, G2, F2⟩; have d0 := (F2.cell (o := 0) HO.out.lt HO.out.oX).trans c0; have hnX2 : Hid (¬ X2 ob) := hide (fun e => by rcases G2 ob e with e | e; exact HO.out.oX e; exact absurd e (Nat.not_le.2 HO.out.lt)); have hol : Hid (ob < w2.heap.size) := hide (Nat.lt_of_lt_of_le HO.out.lt F2.size); have HH2 := hide H2; have hX2 := hide (G2.ge bX HF.out.size); have HF2 := hide (HF.out.on (F2.from bX)); clear hgm R2 nX2 H2 G2 F2 c0 HC)
    | (go_at_call 34; refine (size_any _ hb X2 sz _ _ _ _ HH2.out).mono ?_; rintro e w3 ⟨rfl, hw⟩; replace hw := hw.symm; subst hw))
  have KP := fun q => place_any x2 J (w2.drewN q) (by have := HK.out; omega) (by have := HK.out; omega) h21 h22
  obtain ⟨t, ht⟩ : ∃ t : Nat, (x2 % (J : Int)).toNat = t := ⟨_, rfl⟩
  have htl : t < J := by
    have hk := HK.out
    have a1 := Int.emod_nonneg x2 (b := (J : Int)) (by omega)
    have a2 := Int.emod_lt_of_pos x2 (b := (J : Int)) (by omega)
    omega
  rw [ht] at KP
  have KA := fun q => alloc_yes (w2.drewN q) hb X2 sz (tm + 1) 1 MS.zero.f MS.zero.st 1 t 0 (HH2.out.drewN q) (by omega) (by omega) (by have := HK.out; omega) (by omega) (by have := HK.out; omega)
  have HT := hide ht
  clear ht
  have hwJ : IntKind.i64.wrap (J : Int) = (J : Int) := (wrap_small J (by omega) (by omega)).1
  go_region_held3 (fun w' => w'.cell? ⟨ob, 0, none⟩ = some (.pointer (some ⟨hb, 0, none⟩))) (go_keep)
    (first
      | (go_at_call 22; refine (KP 1).mono ?_; rintro e w3 ⟨rfl, hw⟩; replace hw := hw.symm; subst hw)
      | (go_at_call 24; refine (KA 1).mono ?_; rintro e w3 ⟨rfl, X3, H3, G3, F3⟩; have e0 := (F3.cell (o := 0) hol.out hnX2.out).trans d0; have HH3 := hide H3; have hX3 := hide (G3.ge hX2.out HF2.out.size); have HF3 := hide ((HF2.out.drewN 1).on (F3.from hX2.out)); clear H3 G3 F3))
  have KA2 := alloc_full w3 hb X3 sz (tm + 1) _ _ _ 1 J 0 HH3.out (by omega) (by omega) (by have := HK.out; omega) (by omega) (by have := HK.out; omega)
  go_wp2_with (first
    | (go_at_call 24; refine KA2.mono ?_; rintro e w4 ⟨rfl, hq4⟩; have HF4 := hide (HF3.out.on (drewFr hq4).some); clear hq4)
    | (go_at_call 12; refine (awake_any _).mono ?_; rintro e w5 ⟨rfl, F5⟩))
  go_ret
  exact ⟨rfl, (HF4.out.on F5.some).below (Nat.le_refl _) (fun k hk e => by omega)⟩

end Go.Proofs.Ytfeofdeffmnbkaa
