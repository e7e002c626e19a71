/-
  What is proved here: the document's reader in memory; its take. the document's reader: a number. the document's reader: signed numbers, bits.
-/
import Derived.Test.YtilcigjhogcjkaaYRPRA
namespace Go.Proofs.Ytilcigjhogcjkaa
open Go Go.RowKit

/-- The document's reader: what is left, whether something was wrong, how many parts. -/
def RfAt (w : World) (rb : Nat) (v : Value) (bad : Bool) (q : Int) : Prop := w.heap[rb]? = some (.cells #[v, .bool bad, .int .i64 q] 71 (0, 0))

theorem RfAt.lt {w : World} {rb : Nat} {v : Value} {bad : Bool} {q : Int} (h : RfAt w rb v bad q) : rb < w.heap.size := (Array.getElem?_eq_some_iff.1 h).1

theorem RfAt.c0 {w : World} {rb : Nat} {v : Value} {bad : Bool} {q : Int} (h : RfAt w rb v bad q) : w.cell? ⟨rb, 0, none⟩ = some v := by
  rw [cell_of_row w rb 0 _ _ _ h]
  rfl

theorem RfAt.c1 {w : World} {rb : Nat} {v : Value} {bad : Bool} {q : Int} (h : RfAt w rb v bad q) : w.cell? ⟨rb, 1, none⟩ = some (.bool bad) := by
  rw [cell_of_row w rb 1 _ _ _ h]
  rfl

theorem RfAt.c2 {w : World} {rb : Nat} {v : Value} {bad : Bool} {q : Int} (h : RfAt w rb v bad q) : w.cell? ⟨rb, 2, none⟩ = some (.int .i64 q) := by
  rw [cell_of_row w rb 2 _ _ _ h]
  rfl

theorem RfAt.fz {w : World} {rb : Nat} {v : Value} {bad : Bool} {q : Int} (h : RfAt w rb v bad q) (i : Nat) : w.frozen? ⟨rb, i, none⟩ = false := frozen_of_row _ _ _ _ _ h

theorem RfAt.set0 {w : World} {rb : Nat} {v : Value} {bad : Bool} {q : Int} (h : RfAt w rb v bad q) (u : Value) : RfAt (w.setCell ⟨rb, 0, none⟩ u) rb u bad q := (heap_setCell_same w rb 0 _ _ u h).trans rfl

theorem RfAt.set1 {w : World} {rb : Nat} {v : Value} {bad : Bool} {q : Int} (h : RfAt w rb v bad q) (b : Bool) : RfAt (w.setCell ⟨rb, 1, none⟩ (.bool b)) rb v b q := (heap_setCell_same w rb 1 _ _ _ h).trans rfl

theorem RfAt.set2 {w : World} {rb : Nat} {v : Value} {bad : Bool} {q : Int} (h : RfAt w rb v bad q) (p : Int) : RfAt (w.setCell ⟨rb, 2, none⟩ (.int .i64 p)) rb v bad p := (heap_setCell_same w rb 2 _ _ _ h).trans rfl

/-- A reader over bytes that lay there at w0. -/
def RfS (w0 w : World) (rb : Nat) (l : List Nat) (bad : Bool) (q : Int) : Prop := Up w0 w ∧ w0.heap.size ≤ rb ∧ ∃ v, BL w0 v l ∧ RfAt w rb v bad q

theorem rup_set {w0 w : World} {rb : Nat} (hU : Up w0 w) (hrb : w0.heap.size ≤ rb) (i : Nat) (v : Value) : Up w0 (w.setCell ⟨rb, i, none⟩ v) :=
  ⟨hU.os, hU.tape, hU.output, by simpa [World.setCell] using hU.size, fun k hk => (heap_setCell_other _ _ _ _ (by show k ≠ rb; omega)).trans (hU.block k hk)⟩

theorem RfS.bad {w0 w : World} {rb : Nat} {l : List Nat} {bad : Bool} {q : Int} (h : RfS w0 w rb l bad q) (b : Bool) : RfS w0 (w.setCell ⟨rb, 1, none⟩ (.bool b)) rb l b q := by
  obtain ⟨hU, hrb, v, hB, hR⟩ := h
  exact ⟨rup_set hU hrb _ _, hrb, v, hB, hR.set1 b⟩

theorem RfS.left {w0 w : World} {rb : Nat} {l : List Nat} {bad : Bool} {q : Int} (h : RfS w0 w rb l bad q) (p : Int) : RfS w0 (w.setCell ⟨rb, 2, none⟩ (.int .i64 p)) rb l bad p := by
  obtain ⟨hU, hrb, v, hB, hR⟩ := h
  exact ⟨rup_set hU hrb _ _, hrb, v, hB, hR.set2 p⟩

theorem RfS.set {w0 w : World} {rb : Nat} {l l' : List Nat} {bad : Bool} {q : Int} {v' : Value} (h : RfS w0 w rb l bad q) (hB : BL w0 v' l') : RfS w0 (w.setCell ⟨rb, 0, none⟩ v') rb l' bad q := by
  obtain ⟨hU, hrb, v, -, hR⟩ := h
  exact ⟨rup_set hU hrb _ _, hrb, v', hB, hR.set0 v'⟩

theorem RfS.mono {w0 w w' : World} {rb : Nat} {l : List Nat} {bad : Bool} {q : Int} (h : RfS w0 w rb l bad q) (u : Up w w') : RfS w0 w' rb l bad q := by
  obtain ⟨hU, hrb, v, hB, hR⟩ := h
  exact ⟨hU.tr u, hrb, v, hB, (u.block rb hR.lt).trans hR⟩

/-- What is taken, and what is left. -/
def TL (w0 w : World) (rb k : Nat) (l : List Nat) (q : Int) (e : Ending) (w' : World) : Prop := ∃ v1, e = .returned v1 ∧ BL w0 v1 (l.take k) ∧ RfS w0 w' rb (l.drop k) false q ∧ Fr (fun j => j = rb) w w'

def TLno (w0 w : World) (rb : Nat) (l : List Nat) (q : Int) (e : Ending) (w' : World) : Prop := e = .returned (.slice none 0 0) ∧ RfS w0 w' rb l true q ∧ Fr (fun j => j = rb) w w'

set_option maxRecDepth 20000 in
theorem ltake_bad (w0 w : World) (rb : Nat) (k : Int) (l : List Nat) (q : Int) (h : RfS w0 w rb l true q) :
    Calls Try.prog 29 #[.pointer (some ⟨rb, 0, none⟩), .int .i64 k] w fun e w' => TLno w0 w rb l q e w' := by
  have HB := hide (h.bad true)
  obtain ⟨hU, hrb, v, hB, hR⟩ := h
  have x1 := hR.c1
  have z1 := hR.fz 1
  clear hR hU hB
  go_enter Try.func29, Try.ntmps29
  go_wp2_with fail
  go_ret
  exact ⟨rfl, HB.out, Fr.setCell (S := fun j => j = rb) (Fr.refl _ _) (fun _ => rfl) _ _⟩

set_option maxRecDepth 20000 in
theorem ltake_no (w0 w : World) (rb k : Nat) (l : List Nat) (q : Int) (h : RfS w0 w rb l false q) (hk : l.length < k) :
    Calls Try.prog 29 #[.pointer (some ⟨rb, 0, none⟩), .int .i64 (k : Int)] w fun e w' => TLno w0 w rb l q e w' := by
  have HB := hide (h.bad true)
  obtain ⟨hU, hrb, v, hB, hR⟩ := h
  obtain ⟨ao, cap, rfl, -⟩ := hB
  have x0 := hR.c0
  have x1 := hR.c1
  have z1 := hR.fz 1
  have g1 : (k : Int) > (l.length : Int) := by omega
  clear hR hU hk
  go_enter Try.func29, Try.ntmps29
  go_wp2_with fail
  go_ret
  exact ⟨rfl, HB.out, Fr.setCell (S := fun j => j = rb) (Fr.refl _ _) (fun _ => rfl) _ _⟩

set_option maxRecDepth 20000 in
theorem ltake_yes (w0 w : World) (rb k : Nat) (l : List Nat) (q : Int) (h : RfS w0 w rb l false q) (hk : k ≤ l.length) :
    Calls Try.prog 29 #[.pointer (some ⟨rb, 0, none⟩), .int .i64 (k : Int)] w fun e w' => TL w0 w rb k l q e w' := by
  obtain ⟨hU, hrb, v, hB, hR⟩ := id h
  obtain ⟨ao, cap, rfl, hc1, hc2, hc3⟩ := id hB
  have x0 := hR.c0
  have x1 := hR.fz 0
  have y1 := hR.c1
  have g1 : ¬ ((k : Int) > (l.length : Int)) := by omega
  have g2 : (l.length : Int) ≤ (cap : Int) := by omega
  have g4 : (k : Int) ≤ (l.length : Int) := by omega
  have HRS := hide h
  rcases hc3 with ⟨rfl, rfl⟩ | ⟨g, off, rfl, -⟩
  · have hl0 : l = [] := List.length_eq_zero_iff.1 (by omega)
    subst hl0
    have hk0 : k = 0 := by simpa using hk
    subst hk0
    clear hR hU hB h hk g1 g2 g4 hc1 hc2
    go_enter Try.func29, Try.ntmps29
    go_wp2_with fail
    go_ret
    exact ⟨_, rfl, ⟨none, 0, rfl, by simp, by simp, .inl ⟨rfl, rfl⟩⟩, HRS.out.set ⟨none, 0, rfl, by simp, by simp, .inl ⟨rfl, rfl⟩⟩, Fr.setCell (S := fun j => j = rb) (Fr.refl _ _) (fun _ => rfl) _ _⟩
  · have HT := hide (hB.take hk)
    by_cases hkc : k = cap
    · have HD := hide (hB.end (k := k) (by omega))
      subst hkc
      rw [Nat.sub_self] at HD
      clear hR hU hB h hk hc1 hc2
      go_enter Try.func29, Try.ntmps29
      go_wp2_with fail
      go_ret
      exact ⟨_, rfl, HT.out, HRS.out.set HD.out, Fr.setCell (S := fun j => j = rb) (Fr.refl _ _) (fun _ => rfl) _ _⟩
    · have HD := hide (hB.drop hk)
      have g3 : (k : Int) < (cap : Int) := by omega
      clear hR hU hB h hk hc1 hc2
      go_enter Try.func29, Try.ntmps29
      go_wp2_with fail
      go_ret
      exact ⟨_, rfl, HT.out, HRS.out.set HD.out, Fr.setCell (S := fun j => j = rb) (Fr.refl _ _) (fun _ => rfl) _ _⟩

/-- Something was wrong. -/
def LB (w0 w : World) (rb : Nat) (w' : World) : Prop := Fr (fun j => j = rb) w w' ∧ ∃ l q, RfS w0 w' rb l true q

def LY (w0 w : World) (rb : Nat) (m : List Nat) (q : Int) (w' : World) : Prop := Fr (fun j => j = rb) w w' ∧ RfS w0 w' rb m false q

def NQ (w0 w : World) (rb : Nat) (q : Int) (out : Option (Nat × List Nat)) (e : Ending) (w' : World) : Prop := ∃ n : Nat, n ≤ 4398046511104 ∧ e = .returned (.int .i64 (n : Int)) ∧ match out with
  | none => LB w0 w rb w'
  | some (k, m) => n = k ∧ LY w0 w rb m q w'

theorem NQ.no {w0 w : World} {rb : Nat} {q : Int} {out : Option (Nat × List Nat)} {e : Ending} {w' : World} (h : NQ w0 w rb q out e w') (ho : out = none) : ∃ n : Nat, n ≤ 4398046511104 ∧ e = .returned (.int .i64 (n : Int)) ∧ LB w0 w rb w' := by
  subst ho
  exact h

theorem NQ.yes {w0 w : World} {rb n : Nat} {m : List Nat} {q : Int} {out : Option (Nat × List Nat)} {e : Ending} {w' : World} (h : NQ w0 w rb q out e w') (ho : out = some (n, m)) : e = .returned (.int .i64 (n : Int)) ∧ LY w0 w rb m q w' := by
  subst ho
  obtain ⟨k, -, h1, h2, h3⟩ := h
  subst h2
  exact ⟨h1, h3⟩

theorem NQ.mkno {w0 w : World} {rb n : Nat} {q : Int} {out : Option (Nat × List Nat)} {e : Ending} {w' : World} (ho : out = none) (hn : n ≤ 4398046511104) (he : e = .returned (.int .i64 (n : Int))) (h : LB w0 w rb w') : NQ w0 w rb q out e w' := by
  subst ho
  exact ⟨n, hn, he, h⟩

theorem NQ.mkyes {w0 w : World} {rb n : Nat} {m : List Nat} {q : Int} {out : Option (Nat × List Nat)} {e : Ending} {w' : World} (ho : out = some (n, m)) (hn : n ≤ 4398046511104) (he : e = .returned (.int .i64 (n : Int))) (h : LY w0 w rb m q w') : NQ w0 w rb q out e w' := by
  subst ho
  exact ⟨n, hn, he, rfl, h⟩

theorem RfS.lt {w0 w : World} {rb : Nat} {l : List Nat} {bad : Bool} {q : Int} (h : RfS w0 w rb l bad q) : rb < w.heap.size := by
  obtain ⟨-, -, v, -, hR⟩ := h
  exact hR.lt

theorem RfS.k1 {w0 w : World} {rb : Nat} {l : List Nat} {bad : Bool} {q : Int} (h : RfS w0 w rb l bad q) : w.cell? ⟨rb, 1, none⟩ = some (.bool bad) := by
  obtain ⟨-, -, v, -, hR⟩ := h
  exact hR.c1

theorem RfS.k2 {w0 w : World} {rb : Nat} {l : List Nat} {bad : Bool} {q : Int} (h : RfS w0 w rb l bad q) : w.cell? ⟨rb, 2, none⟩ = some (.int .i64 q) := by
  obtain ⟨-, -, v, -, hR⟩ := h
  exact hR.c2

theorem RfS.fz {w0 w : World} {rb : Nat} {l : List Nat} {bad : Bool} {q : Int} (h : RfS w0 w rb l bad q) (i : Nat) : w.frozen? ⟨rb, i, none⟩ = false := by
  obtain ⟨-, -, v, -, hR⟩ := h
  exact hR.fz i

theorem LB.of {w0 w w' : World} {rb : Nat} {l : List Nat} {q : Int} (F : Fr (fun j => j = rb) w w') (h : RfS w0 w' rb l true q) : LB w0 w rb w' := ⟨F, l, q, h⟩

theorem LB.ofset {w0 w w' : World} {rb : Nat} {l : List Nat} {b : Bool} {q : Int} (F : Fr (fun j => j = rb) w w') (h : RfS w0 w' rb l b q) : LB w0 w rb (w'.setCell ⟨rb, 1, none⟩ (.bool true)) := ⟨F.setCell (fun _ => rfl) _ _, l, q, h.bad true⟩

set_option maxRecDepth 20000 in
theorem lnum_bad (w0 w : World) (rb : Nat) (l : List Nat) (q : Int) (h : RfS w0 w rb l true q) :
    Calls Try.prog 30 #[.pointer (some ⟨rb, 0, none⟩)] w fun e w' => e = .returned (.int .i64 0) ∧ LB w0 w rb w' := by
  have K := hide (ltake_bad w0 w rb 1 l q h)
  clear h
  go_enter Try.func30, Try.ntmps30
  go_wp2
  go_loopw [3, 4] (fun n c wr => c = .int .i64 0 ∧ n = .int .i64 0 ∧ wr = w) (fun _ _ _ => 0)
  case atStart => exact ⟨rfl, rfl, rfl⟩
  case round =>
    obtain ⟨rfl, rfl, rfl⟩ := hrel
    go_wp2_with (go_at_call 29; refine K.out.mono ?_; rintro e1 w1 ⟨rfl, hr1, F1⟩; have x1 := hr1.k1; have HR1 := hide hr1; have HF1 := hide F1; clear hr1 F1)
    go_ret
    exact ⟨rfl, LB.of HF1.out HR1.out⟩

set_option maxRecDepth 20000 in
set_option maxHeartbeats 2000000 in
theorem lnum_any (w0 w : World) (rb : Nat) (l : List Nat) (q : Int) (h : RfS w0 w rb l false q) (h8 : By8 l) :
    Calls Try.prog 30 #[.pointer (some ⟨rb, 0, none⟩)] w fun e w' => NQ w0 w rb q (rdNum l) e w' := by
  obtain ⟨out, hout⟩ : ∃ o, o = rdNum l := ⟨_, rfl⟩
  rw [← hout]
  have HRS := hide h
  have HOUT := hide hout
  have H8 := hide h8
  clear h hout h8
  go_enter Try.func30, Try.ntmps30
  go_wp2
  go_loopw [3, 4] (fun n c wr => ∃ (i acc : Nat) (m : List Nat), i ≤ 6 ∧ c = .int .i64 (i : Int) ∧ n = .int .i64 (acc : Int) ∧ acc < 128 ^ i ∧ RfS w0 wr rb m false q ∧ Fr (fun j => j = rb) w wr ∧ By8 m ∧ out = rdG (6 - i) i acc m) (fun _ c _ => 6 - (intOf c).toNat)
  case atStart => exact ⟨0, 0, l, by decide, rfl, rfl, by decide, HRS.out, Fr.refl _ _, H8.out, HOUT.out⟩
  case round =>
    obtain ⟨i, acc, m, hi, rfl, rfl, hacc, hrs, hF, hm8, ho⟩ := hrel
    by_cases hi6 : i < 6
    · match m, hrs, hm8, ho with
      | [], hrs, hm8, ho =>
        rw [rdG_nil] at ho
        have HT := hide (ltake_no w0 wr rb 1 [] q hrs (by decide))
        have hiI : (i : Int) < 6 := by omega
        have HFF := hide hF
        have HO := hide ho
        clear hrs hF ho hacc HRS HOUT H8
        go_wp2_with (go_at_call 29; refine HT.out.mono ?_; rintro e1 w1 ⟨rfl, hr1, F1⟩; have x1 := hr1.k1; have HR1 := hide hr1; have HF1 := hide (HFF.out.trans F1 (fun _ _ e => e)); clear hr1 F1)
        go_ret
        exact NQ.mkno HO.out (Nat.zero_le _) rfl (LB.of HF1.out HR1.out)
      | b :: m, hrs, hm8, ho =>
        have hb : b < 256 := hm8 b (List.mem_cons_self ..)
        have hm8' : By8 m := fun x hx => hm8 x (List.mem_cons_of_mem _ hx)
        have HT := hide (ltake_yes w0 wr rb 1 (b :: m) q hrs (by simp))
        have hiI : (i : Int) < 6 := by omega
        have HFF := hide hF
        have HM8 := hide hm8'
        rw [show 6 - i = (5 - i) + 1 by omega, rdG_cons] at ho
        have HO := hide ho
        clear hrs hF ho hm8 hm8' HRS HOUT H8
        have hi5 : i = 0 ∨ i = 1 ∨ i = 2 ∨ i = 3 ∨ i = 4 ∨ i = 5 := by omega
        rcases hi5 with rfl | rfl | rfl | rfl | rfl | rfl
        · have hpow : (128 : Nat) ^ 0 = 1 := by decide
          rw [hpow] at hacc HO
          have ha0 : acc = 0 := by omega
          subst ha0
          by_cases hb1 : b < 128
          · have hsmall : b ≤ 4398046511104 := by omega
            have gb : (b : Int) < 128 := by omega
            have ge : ((b : Int) % 128) = ((b : Nat) : Int) := by omega
            by_cases hz : b = 0
            · have gz : ((b : Int) == 0) = true := by rw [beq_iff_eq]; omega
              have gm : ¬ ((b : Int) % 128 > 1099511627776) := by omega
              have HV : Hid (out = some (b, m)) := by
                unfold Hid
                rw [HO.out, if_pos hb1, if_pos (by simp; omega)]
                simp
              clear HO
              go_wp2_with (go_at_call 29; refine HT.out.mono ?_; rintro e1 w1 ⟨v1, rfl, hb1, hr1, F1⟩; obtain ⟨g, off, cap, rfl, hc⟩ := BL.one hb1 hr1.1; have x1 := hr1.k1; have z1 := hr1.fz 1; have HR1 := hide hr1; have HF1 := hide (HFF.out.trans F1 (fun _ _ e => e)); clear hb1 hr1 F1)
              go_ret
              exact NQ.mkyes HV.out hsmall (congrArg (fun z : Int => Ending.returned (Value.int .i64 z)) (by omega)) ⟨HF1.out, HR1.out⟩
            · have gz : ((b : Int) == 0) = false := by rw [beq_eq_false_iff_ne]; omega
              have gm : ¬ ((b : Int) % 128 > 1099511627776) := by omega
              have HV : Hid (out = some (b, m)) := by
                unfold Hid
                rw [HO.out, if_pos hb1, if_pos (by simp; omega)]
                simp
              clear HO
              go_wp2_with (go_at_call 29; refine HT.out.mono ?_; rintro e1 w1 ⟨v1, rfl, hb1, hr1, F1⟩; obtain ⟨g, off, cap, rfl, hc⟩ := BL.one hb1 hr1.1; have x1 := hr1.k1; have z1 := hr1.fz 1; have HR1 := hide hr1; have HF1 := hide (HFF.out.trans F1 (fun _ _ e => e)); clear hb1 hr1 F1)
              go_ret
              exact NQ.mkyes HV.out hsmall (congrArg (fun z : Int => Ending.returned (Value.int .i64 z)) (by omega)) ⟨HF1.out, HR1.out⟩
          · have gb : ¬ ((b : Int) < 128) := by omega
            have HV : Hid (out = rdG 5 1 (b % 128) m) := by
              unfold Hid
              rw [HO.out, if_neg hb1]; simp
            clear HO
            go_wp2_with (go_at_call 29; refine HT.out.mono ?_; rintro e1 w1 ⟨v1, rfl, hb1, hr1, F1⟩; obtain ⟨g, off, cap, rfl, hc⟩ := BL.one hb1 hr1.1; have x1 := hr1.k1; have z1 := hr1.fz 1; have HR1 := hide hr1; have HF1 := hide (HFF.out.trans F1 (fun _ _ e => e)); clear hb1 hr1 F1)
            refine ⟨⟨1, b % 128, m, by decide, rfl, by go_num, by omega, HR1.out, HF1.out, HM8.out, HV.out⟩, by simp [intOf]⟩
        · have hpow : (128 : Nat) ^ 1 = 128 := by decide
          rw [hpow] at hacc HO
          by_cases hb1 : b < 128
          · have hsmall : acc + b * 128 ≤ 4398046511104 := by omega
            have gb : (b : Int) < 128 := by omega
            have ge : ((acc : Int) + (b : Int) % 128 * 128) = ((acc + b * 128 : Nat) : Int) := by omega
            by_cases hz : b = 0
            · have gz : ((b : Int) == 0) = true := by rw [beq_iff_eq]; omega
              have HV : Hid (out = none) := by
                unfold Hid
                rw [HO.out, if_pos hb1, if_neg (by simp; omega)]
              clear HO
              go_wp2_with (go_at_call 29; refine HT.out.mono ?_; rintro e1 w1 ⟨v1, rfl, hb1, hr1, F1⟩; obtain ⟨g, off, cap, rfl, hc⟩ := BL.one hb1 hr1.1; have x1 := hr1.k1; have z1 := hr1.fz 1; have HR1 := hide hr1; have HF1 := hide (HFF.out.trans F1 (fun _ _ e => e)); clear hb1 hr1 F1)
              go_ret
              exact NQ.mkno HV.out hsmall (congrArg (fun z : Int => Ending.returned (Value.int .i64 z)) (by omega)) (LB.ofset HF1.out HR1.out)
            · have gz : ((b : Int) == 0) = false := by rw [beq_eq_false_iff_ne]; omega
              have hn : acc + b * 128 ≤ 1099511627776 := by omega
              have gm : ¬ ((acc : Int) + (b : Int) % 128 * 128 > 1099511627776) := by omega
              have HV : Hid (out = some (acc + b * 128, m)) := by
                unfold Hid
                rw [HO.out, if_pos hb1, if_pos (by simp; omega)]
              clear HO
              go_wp2_with (go_at_call 29; refine HT.out.mono ?_; rintro e1 w1 ⟨v1, rfl, hb1, hr1, F1⟩; obtain ⟨g, off, cap, rfl, hc⟩ := BL.one hb1 hr1.1; have x1 := hr1.k1; have z1 := hr1.fz 1; have HR1 := hide hr1; have HF1 := hide (HFF.out.trans F1 (fun _ _ e => e)); clear hb1 hr1 F1)
              go_ret
              exact NQ.mkyes HV.out hsmall (congrArg (fun z : Int => Ending.returned (Value.int .i64 z)) (by omega)) ⟨HF1.out, HR1.out⟩
          · have gb : ¬ ((b : Int) < 128) := by omega
            have HV : Hid (out = rdG 4 2 (acc + b % 128 * 128) m) := by
              unfold Hid
              rw [HO.out, if_neg hb1]
            clear HO
            go_wp2_with (go_at_call 29; refine HT.out.mono ?_; rintro e1 w1 ⟨v1, rfl, hb1, hr1, F1⟩; obtain ⟨g, off, cap, rfl, hc⟩ := BL.one hb1 hr1.1; have x1 := hr1.k1; have z1 := hr1.fz 1; have HR1 := hide hr1; have HF1 := hide (HFF.out.trans F1 (fun _ _ e => e)); clear hb1 hr1 F1)
            refine ⟨⟨2, acc + b % 128 * 128, m, by decide, rfl, by go_num, by omega, HR1.out, HF1.out, HM8.out, HV.out⟩, by simp [intOf]⟩
        · have hpow : (128 : Nat) ^ 2 = 16384 := by decide
          rw [hpow] at hacc HO
          by_cases hb1 : b < 128
          · have hsmall : acc + b * 16384 ≤ 4398046511104 := by omega
            have gb : (b : Int) < 128 := by omega
            have ge : ((acc : Int) + (b : Int) % 128 * 16384) = ((acc + b * 16384 : Nat) : Int) := by omega
            by_cases hz : b = 0
            · have gz : ((b : Int) == 0) = true := by rw [beq_iff_eq]; omega
              have HV : Hid (out = none) := by
                unfold Hid
                rw [HO.out, if_pos hb1, if_neg (by simp; omega)]
              clear HO
              go_wp2_with (go_at_call 29; refine HT.out.mono ?_; rintro e1 w1 ⟨v1, rfl, hb1, hr1, F1⟩; obtain ⟨g, off, cap, rfl, hc⟩ := BL.one hb1 hr1.1; have x1 := hr1.k1; have z1 := hr1.fz 1; have HR1 := hide hr1; have HF1 := hide (HFF.out.trans F1 (fun _ _ e => e)); clear hb1 hr1 F1)
              go_ret
              exact NQ.mkno HV.out hsmall (congrArg (fun z : Int => Ending.returned (Value.int .i64 z)) (by omega)) (LB.ofset HF1.out HR1.out)
            · have gz : ((b : Int) == 0) = false := by rw [beq_eq_false_iff_ne]; omega
              have hn : acc + b * 16384 ≤ 1099511627776 := by omega
              have gm : ¬ ((acc : Int) + (b : Int) % 128 * 16384 > 1099511627776) := by omega
              have HV : Hid (out = some (acc + b * 16384, m)) := by
                unfold Hid
                rw [HO.out, if_pos hb1, if_pos (by simp; omega)]
              clear HO
              go_wp2_with (go_at_call 29; refine HT.out.mono ?_; rintro e1 w1 ⟨v1, rfl, hb1, hr1, F1⟩; obtain ⟨g, off, cap, rfl, hc⟩ := BL.one hb1 hr1.1; have x1 := hr1.k1; have z1 := hr1.fz 1; have HR1 := hide hr1; have HF1 := hide (HFF.out.trans F1 (fun _ _ e => e)); clear hb1 hr1 F1)
              go_ret
              exact NQ.mkyes HV.out hsmall (congrArg (fun z : Int => Ending.returned (Value.int .i64 z)) (by omega)) ⟨HF1.out, HR1.out⟩
          · have gb : ¬ ((b : Int) < 128) := by omega
            have HV : Hid (out = rdG 3 3 (acc + b % 128 * 16384) m) := by
              unfold Hid
              rw [HO.out, if_neg hb1]
            clear HO
            go_wp2_with (go_at_call 29; refine HT.out.mono ?_; rintro e1 w1 ⟨v1, rfl, hb1, hr1, F1⟩; obtain ⟨g, off, cap, rfl, hc⟩ := BL.one hb1 hr1.1; have x1 := hr1.k1; have z1 := hr1.fz 1; have HR1 := hide hr1; have HF1 := hide (HFF.out.trans F1 (fun _ _ e => e)); clear hb1 hr1 F1)
            refine ⟨⟨3, acc + b % 128 * 16384, m, by decide, rfl, by go_num, by omega, HR1.out, HF1.out, HM8.out, HV.out⟩, by simp [intOf]⟩
        · have hpow : (128 : Nat) ^ 3 = 2097152 := by decide
          rw [hpow] at hacc HO
          by_cases hb1 : b < 128
          · have hsmall : acc + b * 2097152 ≤ 4398046511104 := by omega
            have gb : (b : Int) < 128 := by omega
            have ge : ((acc : Int) + (b : Int) % 128 * 2097152) = ((acc + b * 2097152 : Nat) : Int) := by omega
            by_cases hz : b = 0
            · have gz : ((b : Int) == 0) = true := by rw [beq_iff_eq]; omega
              have HV : Hid (out = none) := by
                unfold Hid
                rw [HO.out, if_pos hb1, if_neg (by simp; omega)]
              clear HO
              go_wp2_with (go_at_call 29; refine HT.out.mono ?_; rintro e1 w1 ⟨v1, rfl, hb1, hr1, F1⟩; obtain ⟨g, off, cap, rfl, hc⟩ := BL.one hb1 hr1.1; have x1 := hr1.k1; have z1 := hr1.fz 1; have HR1 := hide hr1; have HF1 := hide (HFF.out.trans F1 (fun _ _ e => e)); clear hb1 hr1 F1)
              go_ret
              exact NQ.mkno HV.out hsmall (congrArg (fun z : Int => Ending.returned (Value.int .i64 z)) (by omega)) (LB.ofset HF1.out HR1.out)
            · have gz : ((b : Int) == 0) = false := by rw [beq_eq_false_iff_ne]; omega
              have hn : acc + b * 2097152 ≤ 1099511627776 := by omega
              have gm : ¬ ((acc : Int) + (b : Int) % 128 * 2097152 > 1099511627776) := by omega
              have HV : Hid (out = some (acc + b * 2097152, m)) := by
                unfold Hid
                rw [HO.out, if_pos hb1, if_pos (by simp; omega)]
              clear HO
              go_wp2_with (go_at_call 29; refine HT.out.mono ?_; rintro e1 w1 ⟨v1, rfl, hb1, hr1, F1⟩; obtain ⟨g, off, cap, rfl, hc⟩ := BL.one hb1 hr1.1; have x1 := hr1.k1; have z1 := hr1.fz 1; have HR1 := hide hr1; have HF1 := hide (HFF.out.trans F1 (fun _ _ e => e)); clear hb1 hr1 F1)
              go_ret
              exact NQ.mkyes HV.out hsmall (congrArg (fun z : Int => Ending.returned (Value.int .i64 z)) (by omega)) ⟨HF1.out, HR1.out⟩
          · have gb : ¬ ((b : Int) < 128) := by omega
            have HV : Hid (out = rdG 2 4 (acc + b % 128 * 2097152) m) := by
              unfold Hid
              rw [HO.out, if_neg hb1]
            clear HO
            go_wp2_with (go_at_call 29; refine HT.out.mono ?_; rintro e1 w1 ⟨v1, rfl, hb1, hr1, F1⟩; obtain ⟨g, off, cap, rfl, hc⟩ := BL.one hb1 hr1.1; have x1 := hr1.k1; have z1 := hr1.fz 1; have HR1 := hide hr1; have HF1 := hide (HFF.out.trans F1 (fun _ _ e => e)); clear hb1 hr1 F1)
            refine ⟨⟨4, acc + b % 128 * 2097152, m, by decide, rfl, by go_num, by omega, HR1.out, HF1.out, HM8.out, HV.out⟩, by simp [intOf]⟩
        · have hpow : (128 : Nat) ^ 4 = 268435456 := by decide
          rw [hpow] at hacc HO
          by_cases hb1 : b < 128
          · have hsmall : acc + b * 268435456 ≤ 4398046511104 := by omega
            have gb : (b : Int) < 128 := by omega
            have ge : ((acc : Int) + (b : Int) % 128 * 268435456) = ((acc + b * 268435456 : Nat) : Int) := by omega
            by_cases hz : b = 0
            · have gz : ((b : Int) == 0) = true := by rw [beq_iff_eq]; omega
              have HV : Hid (out = none) := by
                unfold Hid
                rw [HO.out, if_pos hb1, if_neg (by simp; omega)]
              clear HO
              go_wp2_with (go_at_call 29; refine HT.out.mono ?_; rintro e1 w1 ⟨v1, rfl, hb1, hr1, F1⟩; obtain ⟨g, off, cap, rfl, hc⟩ := BL.one hb1 hr1.1; have x1 := hr1.k1; have z1 := hr1.fz 1; have HR1 := hide hr1; have HF1 := hide (HFF.out.trans F1 (fun _ _ e => e)); clear hb1 hr1 F1)
              go_ret
              exact NQ.mkno HV.out hsmall (congrArg (fun z : Int => Ending.returned (Value.int .i64 z)) (by omega)) (LB.ofset HF1.out HR1.out)
            · have gz : ((b : Int) == 0) = false := by rw [beq_eq_false_iff_ne]; omega
              have hn : acc + b * 268435456 ≤ 1099511627776 := by omega
              have gm : ¬ ((acc : Int) + (b : Int) % 128 * 268435456 > 1099511627776) := by omega
              have HV : Hid (out = some (acc + b * 268435456, m)) := by
                unfold Hid
                rw [HO.out, if_pos hb1, if_pos (by simp; omega)]
              clear HO
              go_wp2_with (go_at_call 29; refine HT.out.mono ?_; rintro e1 w1 ⟨v1, rfl, hb1, hr1, F1⟩; obtain ⟨g, off, cap, rfl, hc⟩ := BL.one hb1 hr1.1; have x1 := hr1.k1; have z1 := hr1.fz 1; have HR1 := hide hr1; have HF1 := hide (HFF.out.trans F1 (fun _ _ e => e)); clear hb1 hr1 F1)
              go_ret
              exact NQ.mkyes HV.out hsmall (congrArg (fun z : Int => Ending.returned (Value.int .i64 z)) (by omega)) ⟨HF1.out, HR1.out⟩
          · have gb : ¬ ((b : Int) < 128) := by omega
            have HV : Hid (out = rdG 1 5 (acc + b % 128 * 268435456) m) := by
              unfold Hid
              rw [HO.out, if_neg hb1]
            clear HO
            go_wp2_with (go_at_call 29; refine HT.out.mono ?_; rintro e1 w1 ⟨v1, rfl, hb1, hr1, F1⟩; obtain ⟨g, off, cap, rfl, hc⟩ := BL.one hb1 hr1.1; have x1 := hr1.k1; have z1 := hr1.fz 1; have HR1 := hide hr1; have HF1 := hide (HFF.out.trans F1 (fun _ _ e => e)); clear hb1 hr1 F1)
            refine ⟨⟨5, acc + b % 128 * 268435456, m, by decide, rfl, by go_num, by omega, HR1.out, HF1.out, HM8.out, HV.out⟩, by simp [intOf]⟩
        · have hpow : (128 : Nat) ^ 5 = 34359738368 := by decide
          rw [hpow] at hacc HO
          by_cases hb1 : b < 128
          · have hsmall : acc + b * 34359738368 ≤ 4398046511104 := by omega
            have gb : (b : Int) < 128 := by omega
            have ge : ((acc : Int) + (b : Int) % 128 * 34359738368) = ((acc + b * 34359738368 : Nat) : Int) := by omega
            by_cases hz : b = 0
            · have gz : ((b : Int) == 0) = true := by rw [beq_iff_eq]; omega
              have HV : Hid (out = none) := by
                unfold Hid
                rw [HO.out, if_pos hb1, if_neg (by simp; omega)]
              clear HO
              go_wp2_with (go_at_call 29; refine HT.out.mono ?_; rintro e1 w1 ⟨v1, rfl, hb1, hr1, F1⟩; obtain ⟨g, off, cap, rfl, hc⟩ := BL.one hb1 hr1.1; have x1 := hr1.k1; have z1 := hr1.fz 1; have HR1 := hide hr1; have HF1 := hide (HFF.out.trans F1 (fun _ _ e => e)); clear hb1 hr1 F1)
              go_ret
              exact NQ.mkno HV.out hsmall (congrArg (fun z : Int => Ending.returned (Value.int .i64 z)) (by omega)) (LB.ofset HF1.out HR1.out)
            · have gz : ((b : Int) == 0) = false := by rw [beq_eq_false_iff_ne]; omega
              by_cases hn : acc + b * 34359738368 ≤ 1099511627776
              · have gm : ¬ ((acc : Int) + (b : Int) % 128 * 34359738368 > 1099511627776) := by omega
                have HV : Hid (out = some (acc + b * 34359738368, m)) := by
                  unfold Hid
                  rw [HO.out, if_pos hb1, if_pos (by simp; omega)]
                clear HO
                go_wp2_with (go_at_call 29; refine HT.out.mono ?_; rintro e1 w1 ⟨v1, rfl, hb1, hr1, F1⟩; obtain ⟨g, off, cap, rfl, hc⟩ := BL.one hb1 hr1.1; have x1 := hr1.k1; have z1 := hr1.fz 1; have HR1 := hide hr1; have HF1 := hide (HFF.out.trans F1 (fun _ _ e => e)); clear hb1 hr1 F1)
                go_ret
                exact NQ.mkyes HV.out hsmall (congrArg (fun z : Int => Ending.returned (Value.int .i64 z)) (by omega)) ⟨HF1.out, HR1.out⟩
              · have gm : (acc : Int) + (b : Int) % 128 * 34359738368 > 1099511627776 := by omega
                have HV : Hid (out = none) := by
                  unfold Hid
                  rw [HO.out, if_pos hb1, if_neg (by simp; omega)]
                clear HO
                go_wp2_with (go_at_call 29; refine HT.out.mono ?_; rintro e1 w1 ⟨v1, rfl, hb1, hr1, F1⟩; obtain ⟨g, off, cap, rfl, hc⟩ := BL.one hb1 hr1.1; have x1 := hr1.k1; have z1 := hr1.fz 1; have HR1 := hide hr1; have HF1 := hide (HFF.out.trans F1 (fun _ _ e => e)); clear hb1 hr1 F1)
                go_ret
                exact NQ.mkno HV.out hsmall (congrArg (fun z : Int => Ending.returned (Value.int .i64 z)) (by omega)) (LB.ofset HF1.out HR1.out)
          · have gb : ¬ ((b : Int) < 128) := by omega
            have HV : Hid (out = rdG 0 6 (acc + b % 128 * 34359738368) m) := by
              unfold Hid
              rw [HO.out, if_neg hb1]
            clear HO
            go_wp2_with (go_at_call 29; refine HT.out.mono ?_; rintro e1 w1 ⟨v1, rfl, hb1, hr1, F1⟩; obtain ⟨g, off, cap, rfl, hc⟩ := BL.one hb1 hr1.1; have x1 := hr1.k1; have z1 := hr1.fz 1; have HR1 := hide hr1; have HF1 := hide (HFF.out.trans F1 (fun _ _ e => e)); clear hb1 hr1 F1)
            refine ⟨⟨6, acc + b % 128 * 34359738368, m, by decide, rfl, by go_num, by omega, HR1.out, HF1.out, HM8.out, HV.out⟩, by simp [intOf]⟩
    · have e : i = 6 := by omega
      subst e
      have hi6' : ¬ ((6 : Int) < 6) := by decide
      have HFF := hide hF
      have HRR := hide hrs
      have x1 := hrs.k1
      have z1 := hrs.fz 1
      have HO : Hid (out = none) := ho.trans (rdG_last _ _ _)
      clear hrs hF ho hacc HRS HOUT H8
      go_wp2
      go_ret
      exact NQ.mkno HO.out (Nat.zero_le _) rfl (LB.ofset HFF.out HRR.out)

set_option maxRecDepth 20000 in
theorem lsgn_bad (w0 w : World) (rb : Nat) (l : List Nat) (q : Int) (h : RfS w0 w rb l true q) :
    Calls Try.prog 32 #[.pointer (some ⟨rb, 0, none⟩)] w fun e w' => ∃ s : Int, e = .returned (.int .i64 s) ∧ LB w0 w rb w' := by
  have K := hide (lnum_bad w0 w rb l q h)
  clear h
  go_enter Try.func32, Try.ntmps32
  go_wp2_with (go_at_call 30; refine K.out.mono ?_; rintro e1 w1 ⟨rfl, hb1⟩; have HB1 := hide hb1; clear hb1)
  go_ret
  exact ⟨_, rfl, HB1.out⟩

set_option maxRecDepth 20000 in
theorem lsgn_no (w0 w : World) (rb : Nat) (l : List Nat) (q : Int) (h : RfS w0 w rb l false q) (h8 : By8 l) (hn : rdNum l = none) :
    Calls Try.prog 32 #[.pointer (some ⟨rb, 0, none⟩)] w fun e w' => ∃ s : Int, e = .returned (.int .i64 s) ∧ LB w0 w rb w' := by
  have K := hide ((lnum_any w0 w rb l q h h8).mono (fun _ _ x => x.no hn))
  clear h hn
  go_enter Try.func32, Try.ntmps32
  go_wp2_with (go_at_call 30; refine K.out.mono ?_; rintro e1 w1 ⟨n, hn, rfl, hb1⟩; have HB1 := hide hb1; clear hb1)
  all_goals
    go_ret
    exact ⟨_, rfl, HB1.out⟩

set_option maxRecDepth 20000 in
theorem lsgn_yes (w0 w : World) (rb : Nat) (l m : List Nat) (s q : Int) (h : RfS w0 w rb l false q) (h8 : By8 l) (hs : rdSgn l = some (s, m)) :
    Calls Try.prog 32 #[.pointer (some ⟨rb, 0, none⟩)] w fun e w' => e = .returned (.int .i64 s) ∧ LY w0 w rb m q w' := by
  cases hn : rdNum l with
  | none =>
    unfold rdSgn at hs
    rw [hn] at hs
    cases hs
  | some x =>
    obtain ⟨n, m'⟩ := x
    have hs' : unS n = s ∧ m' = m := by
      unfold rdSgn at hs
      rw [hn] at hs
      cases hs
      exact ⟨rfl, rfl⟩
    obtain ⟨hs', rfl⟩ := hs'
    have K := hide ((lnum_any w0 w rb l q h h8).mono (fun _ _ x => x.yes hn))
    have hle := rdNum_le hn
    clear h hn hs
    by_cases ho : n % 2 = 1
    · have g1 : ((n : Int).tmod 2 == 1) = true := by rw [beq_iff_eq, Int.tmod_eq_emod_of_nonneg (by omega)]; omega
      have g1' : ((n : Int) % 2 == 1) = true := by rw [beq_iff_eq]; omega
      have e1 : (n : Int).tdiv 2 = ((n / 2 : Nat) : Int) := by rw [Int.tdiv_eq_ediv_of_nonneg (by omega)]; rfl
      have HV : Hid (-((n / 2 : Nat) : Int) - 1 = s) := by
        unfold Hid
        rw [← hs']
        unfold unS
        rw [if_pos ho]
        omega
      go_enter Try.func32, Try.ntmps32
      go_wp2_with (go_at_call 30; refine K.out.mono ?_; rintro e1 w1 ⟨rfl, hb1⟩; have HB1 := hide hb1; clear hb1)
      go_ret
      exact ⟨congrArg (fun z : Int => Ending.returned (Value.int .i64 z)) HV.out, HB1.out⟩
    · have g1 : ((n : Int).tmod 2 == 1) = false := by rw [beq_eq_false_iff_ne, Int.tmod_eq_emod_of_nonneg (by omega)]; omega
      have g1' : ((n : Int) % 2 == 1) = false := by rw [beq_eq_false_iff_ne]; omega
      have e1 : (n : Int).tdiv 2 = ((n / 2 : Nat) : Int) := by rw [Int.tdiv_eq_ediv_of_nonneg (by omega)]; rfl
      have HV : Hid (((n / 2 : Nat) : Int) = s) := by
        unfold Hid
        rw [← hs']
        unfold unS
        rw [if_neg ho]
      go_enter Try.func32, Try.ntmps32
      go_wp2_with (go_at_call 30; refine K.out.mono ?_; rintro e1 w1 ⟨rfl, hb1⟩; have HB1 := hide hb1; clear hb1)
      go_ret
      exact ⟨congrArg (fun z : Int => Ending.returned (Value.int .i64 z)) HV.out, HB1.out⟩

set_option maxRecDepth 20000 in
theorem lbit_bad (w0 w : World) (rb : Nat) (l : List Nat) (q : Int) (h : RfS w0 w rb l true q) :
    Calls Try.prog 31 #[.pointer (some ⟨rb, 0, none⟩)] w fun e w' => e = .returned (.bool false) ∧ LB w0 w rb w' := by
  have K := hide (ltake_bad w0 w rb 1 l q h)
  clear h
  go_enter Try.func31, Try.ntmps31
  go_wp2_with (go_at_call 29; refine K.out.mono ?_; rintro e1 w1 ⟨rfl, hr1, F1⟩; have x1 := hr1.k1; have z1 := hr1.fz 1; have HR1 := hide hr1; have HF1 := hide F1; clear hr1 F1)
  go_ret
  exact ⟨rfl, LB.ofset HF1.out HR1.out⟩

set_option maxRecDepth 20000 in
theorem lbit_no (w0 w : World) (rb : Nat) (l : List Nat) (q : Int) (h : RfS w0 w rb l false q) (hn : rdFlag l = none) :
    Calls Try.prog 31 #[.pointer (some ⟨rb, 0, none⟩)] w fun e w' => e = .returned (.bool false) ∧ LB w0 w rb w' := by
  match l, h, hn with
  | [], h, _ =>
    have K := hide (ltake_no w0 w rb 1 [] q h (by decide))
    clear h
    go_enter Try.func31, Try.ntmps31
    go_wp2_with (go_at_call 29; refine K.out.mono ?_; rintro e1 w1 ⟨rfl, hr1, F1⟩; have x1 := hr1.k1; have z1 := hr1.fz 1; have HR1 := hide hr1; have HF1 := hide F1; clear hr1 F1)
    go_ret
    exact ⟨rfl, LB.ofset HF1.out HR1.out⟩
  | b :: l, h, hn =>
    have hb : ¬ b ≤ 1 := by
      intro hb
      simp only [rdFlag, if_pos hb] at hn
      cases hn
    have g1 : (b : Int) > 1 := by omega
    have K := hide (ltake_yes w0 w rb 1 (b :: l) q h (by simp))
    clear h hn
    go_enter Try.func31, Try.ntmps31
    go_wp2_with (go_at_call 29; refine K.out.mono ?_; rintro e1 w1 ⟨v1, rfl, hb1, hr1, F1⟩; obtain ⟨g, off, cap, rfl, hc⟩ := BL.one hb1 hr1.1; have x1 := hr1.k1; have z1 := hr1.fz 1; have HR1 := hide hr1; have HF1 := hide F1; clear hb1 hr1 F1)
    go_ret
    exact ⟨rfl, LB.ofset HF1.out HR1.out⟩

set_option maxRecDepth 20000 in
theorem lbit_yes (w0 w : World) (rb : Nat) (l m : List Nat) (b : Bool) (q : Int) (h : RfS w0 w rb l false q) (hs : rdFlag l = some (b, m)) :
    Calls Try.prog 31 #[.pointer (some ⟨rb, 0, none⟩)] w fun e w' => e = .returned (.bool b) ∧ LY w0 w rb m q w' := by
  match l, h, hs with
  | x :: l, h, hs =>
    have hx : x ≤ 1 := by
      by_cases hx : x ≤ 1
      · exact hx
      · simp only [rdFlag, if_neg hx] at hs
        cases hs
    have hs' : decide (x = 1) = b ∧ l = m := by
      simp only [rdFlag, if_pos hx] at hs
      cases hs
      exact ⟨rfl, rfl⟩
    obtain ⟨hs', rfl⟩ := hs'
    have g1 : ¬ ((x : Int) > 1) := by omega
    have HV : Hid (((x : Int) == 1) = b) := by
      unfold Hid
      rw [← hs']
      by_cases e : x = 1
      · subst e; rfl
      · rw [decide_eq_false e, beq_eq_false_iff_ne]; omega
    have K := hide (ltake_yes w0 w rb 1 (x :: l) q h (by simp))
    clear h hs hs'
    go_enter Try.func31, Try.ntmps31
    go_wp2_with (go_at_call 29; refine K.out.mono ?_; rintro e1 w1 ⟨v1, rfl, hb1, hr1, F1⟩; obtain ⟨g, off, cap, rfl, hc⟩ := BL.one hb1 hr1.1; have x1 := hr1.k1; have z1 := hr1.fz 1; have HR1 := hide hr1; have HF1 := hide F1; clear hb1 hr1 F1)
    go_ret
    exact ⟨congrArg (fun z : Bool => Ending.returned (Value.bool z)) HV.out, HF1.out, HR1.out⟩

end Go.Proofs.Ytilcigjhogcjkaa
