/-
  What is proved here: package value's Intern: of a name that is known; of one for which there is no room.
-/
import Derived.Test.YtchdfenickjiiaaVSym
namespace Go.Proofs.Ytchdfenickjiiaa
open Go Go.RowKit

set_option maxRecDepth 20000 in
set_option maxHeartbeats 2000000 in
theorem intern_old (w : World) (sb hb : Nat) (X : Nat → Prop) (vS : Value) (mb m : Nat) (sw : Nat → Nat) (nm : Nat → ByteArray) (sz : Nat) (tm : Int) (n : Nat) (f : Nat → Nat) (st : Nat → Bool) (h : SymIn w sb hb X vS mb m sw nm sz tm n f st) (i : Nat) (hi : i < m) (hs : (nm i).size ≤ 140737488351232) :
    Calls Try.prog 16 #[.pointer (some ⟨sb, 0, none⟩), .string (nm i)] w fun e w' => e = .returned (.tuple #[.int .u64 (sw i : Int), .bool true]) ∧ ∃ q, w' = w.drewN q := by
  have c1 := h.S.cells.2.1
  have c2 := h.S.cells.2.2.1
  have KK := known_same w sb hb X vS mb sz tm n f st h.S
  obtain ⟨D, hown, hD⟩ := h.map
  have hkey := keyS (s := nm i) (by unfold maxLen; omega)
  have hhas := hD.has i hi
  have hat0 := hD.at' i hi
  have hm1 : m ≤ 1048576 := by have := h.mn; have := h.S.H.good.2.2; omega
  obtain ⟨g, cap, rfl, hg2, hg3, hrow⟩ : ∃ g cap, vS = .slice (some ⟨g, 0, none⟩) m cap ∧ 0 ≤ g ∧ m ≤ cap ∧ RowAt .u64 22 w g cap m sw := by
    rcases h.words with ⟨_, e⟩ | ⟨g, cap, e, h1, h2, h3⟩
    · omega
    · exact ⟨g, cap, e, h1, h3.le, h3⟩
  have cx := hrow.cell hi
  generalize sw i = y at *
  generalize nm i = s at *
  have hiI : (i : Int) < (m : Int) := by omega
  have HKK := hide KK
  have HO := hide hown
  have HA := hide hat0
  clear KK hown hD hat0 h hrow
  go_enter Try.func16, Try.ntmps16
  go_wp2_with (first
    | (go_at_call 46; refine HKK.out.mono ?_; rintro e w1 ⟨rfl, q1, rfl⟩)
    | (at_lookup; refine wpList_lookup_own_ok_int _ rfl _ _ 48 rfl 9 3 .i64 strKeyed Try.underlying48 Try.underlying3 (zeroI _) mb m D rfl (ownsMap_block HO.out (by simp)) _ _ rfl hkey ?_; intro c hat _hwc; rw [hhas]; have hc : c = (i : Int) := (by rw [HA.out] at hat; simpa using hat.symm); subst hc; clear hat))
  go_ret2
  exact ⟨rfl, _, rfl⟩

set_option maxRecDepth 20000 in
set_option maxHeartbeats 2000000 in
theorem intern_full (w : World) (sb hb : Nat) (X : Nat → Prop) (vS : Value) (mb m : Nat) (sw : Nat → Nat) (nm : Nat → ByteArray) (sz : Nat) (tm : Int) (n : Nat) (f : Nat → Nat) (st : Nat → Bool) (h : SymIn w sb hb X vS mb m sw nm sz tm n f st) (s : ByteArray) (hn : ∀ i, i < m → nm i ≠ s) (hs : s.size ≤ 140737488351232) (hroom : sz < n + 1 + 0 + (1 + (s.size + 7) / 8) + 1 + 1 + 0) :
    Calls Try.prog 16 #[.pointer (some ⟨sb, 0, none⟩), .string s] w fun e w' => e = .returned (.tuple #[.int .u64 0, .bool false]) ∧ ∃ q, w' = w.drewN q := by
  have c1 := h.S.cells.2.1
  have c2 := h.S.cells.2.2.1
  have KK := known_same w sb hb X vS mb sz tm n f st h.S
  have KR := fun q => room_any (w.drewN q) sb hb X sz tm n f st (h.S.H.drewN q) (h.S.cells.1)
  have KT := fun w1 => textRaws_any s.size w1 (by omega)
  obtain ⟨D, hown, hD⟩ := h.map
  have hkey := keyS (s := s) (by unfold maxLen; omega)
  have hhas := hD.miss hn
  obtain ⟨N, hN⟩ : ∃ N, N = 1 + (s.size + 7) / 8 := ⟨_, rfl⟩
  rw [← hN] at KT hroom
  have hz := h.S.H.good.2.2
  have hlt : (sz : Int) - (n : Int) < 1 + (N : Int) + 2 := by omega
  have hNl : N ≤ 140737488351240 := by omega
  have HKK := hide KK
  have HKR := hide KR
  have HO := hide hown
  clear KK KR hown hD h hN hroom
  go_enter Try.func16, Try.ntmps16
  go_wp2_with (first
    | (go_at_call 46; refine HKK.out.mono ?_; rintro e w1 ⟨rfl, q1, rfl⟩)
    | (go_at_call 47; refine (KT _).mono ?_; rintro e w1 ⟨rfl, hw⟩; replace hw := hw.symm; subst hw)
    | (go_at_call 48; refine (HKR.out _).mono ?_; rintro e w1 ⟨rfl, q2, rfl⟩)
    | (at_lookup; refine wpList_lookup_own_ok_int _ rfl _ _ 48 rfl 9 3 .i64 strKeyed Try.underlying48 Try.underlying3 (zeroI _) mb m D rfl (ownsMap_block HO.out (by simp)) _ _ rfl hkey ?_; intro c hat _hwc; rw [hhas]; clear hat))
  go_ret2
  exact ⟨rfl, q1 + q2, by simp⟩

/-- The heap has turned, and grown. -/
theorem SymIn.turn {w w6 : World} {sb hb : Nat} {X X3 : Nat → Prop} {vS : Value} {mb m : Nat} {sw : Nat → Nat} {nm : Nat → ByteArray} {sz : Nat} {tm : Int} {n n3 : Nat} {f f3 : Nat → Nat} {st st3 : Nat → Bool} (h : SymIn w sb hb X vS mb m sw nm sz tm n f st) (H : HeapAt w6 hb X3 sz tm n3 f3 st3) (G : Grows w.heap.size X X3) (F : Fr X w w6) (hn : n ≤ n3) : SymIn w6 sb hb X3 vS mb m sw nm sz tm n3 f3 st3 := by
  have hno : ∀ k, k < w.heap.size → ¬ X k → ¬ X3 k := fun k hk hx e => by
    rcases G k e with e | e
    · exact hx e
    · omega
  have hsb := (Array.getElem?_eq_some_iff.1 h.S.blk).1
  obtain ⟨D, h1, h2⟩ := h.map
  exact ⟨⟨(F.block sb hsb h.S.sX).trans h.S.blk, H, hno _ hsb h.S.sX, hno _ h.S.ml h.S.mX, h.S.ms, Nat.lt_of_lt_of_le h.S.ml F.size⟩, h.words.fr F (fun g hg => (h.vX g hg).1), fun g hg => ⟨hno _ (h.words.block_lt hg) (h.vX g hg).1, (h.vX g hg).2⟩, ⟨D, ownsMap_block h1 (F.block mb h.S.ml h.S.mX), h2⟩, Nat.le_trans h.mn hn⟩

/-- A symbol has come: into the map, and behind the words. -/
theorem SymIn.added {w7 w8 w9 : World} {sb hb : Nat} {X : Nat → Prop} {vS v' : Value} {mb m : Nat} {sw sw' : Nat → Nat} {nm nm' : Nat → ByteArray} {sz : Nat} {tm : Int} {n : Nat} {f : Nat → Nat} {st : Nat → Bool} (h : SymIn w7 sb hb X vS mb m sw nm sz tm n f st) {D' : DataW Unit} (hmap : w8.ownsMap Try.prog 9 (plainElem Try.prog 3) mb (m + 1) D') (kn : Knows D' (m + 1) nm') (g8 : w7.grownBy w8 (some mb))
    (F9 : Fr (fun j => vS.ownBlock = some j) w8 w9) (O9 : Own .u64 22 w9 0 v' (m + 1) sw') (S9 : Stays w8.heap.size vS v') (hmn : m + 1 ≤ n) :
    w8.cell? ⟨sb, 1, none⟩ = some vS ∧ w9.cell? ⟨sb, 1, none⟩ = some vS ∧ w9.frozen? ⟨sb, 1, none⟩ = false ∧ SymIn (w9.setCell ⟨sb, 1, none⟩ v') sb hb X v' mb (m + 1) sw' nm' sz tm n f st := by
  have F8 : Fr (fun k => k = mb) w7 w8 := (Fr.refl _ w7).grow g8 (fun k _ e => by cases e; rfl)
  have hsb := (Array.getElem?_eq_some_iff.1 h.S.blk).1
  have vsb : vS.ownBlock ≠ some sb := fun e => (h.vX _ e).2.1 rfl
  have vmb : vS.ownBlock ≠ some mb := fun e => (h.vX _ e).2.2 rfl
  have b8 : w8.heap[sb]? = _ := (F8.block sb hsb (fun e => h.S.ms e.symm)).trans h.S.blk
  have b9 : w9.heap[sb]? = _ := (F9.block sb (Nat.lt_of_lt_of_le hsb F8.size) vsb).trans b8
  have S8 := h.S.fr F8 (fun k hk e => h.S.mX (e ▸ hk)) (fun e => h.S.ms e.symm)
  have S9' := S8.fr F9 (fun k hk e => (h.vX k e).1 hk) vsb
  have F1 : Fr (fun k => k = sb) w9 (w9.setCell ⟨sb, 1, none⟩ v') := Fr.setCell (S := fun k => k = sb) (Fr.refl _ _) (fun _ => rfl) _ _
  have hl8 := F8.size
  have hl9 := F9.size
  have nv : ∀ g, v'.ownBlock = some g → ¬ X g ∧ g ≠ sb ∧ g ≠ mb := fun g hg => by
    rcases S9 g hg with e | e
    · exact h.vX g e
    · have h1 := h.S.ml
      exact ⟨fun hx => by have := h.S.H.lt hx; omega, by omega, by omega⟩
  refine ⟨cell_of_row w8 sb 1 _ _ _ b8, cell_of_row w9 sb 1 _ _ _ b9, frozen_of_row w9 sb 1 _ _ b9, ⟨heap_setCell_same w9 sb 1 _ _ _ b9, S9'.H.fr F1 (fun k hk e => h.S.sX (e ▸ hk)), h.S.sX, h.S.mX, h.S.ms, Nat.lt_of_lt_of_le S9'.ml F1.size⟩, O9.fr F1 (fun g hg e => (nv g hg).2.1 e), nv, ⟨D', ownsMap_block hmap ((F1.block mb S9'.ml h.S.ms).trans (F9.block mb S8.ml vmb)), kn⟩, hmn⟩

end Go.Proofs.Ytchdfenickjiiaa
