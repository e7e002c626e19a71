/-
  What is proved here: num.Parse and the document's own (chapter 2) read any text, and come to the same.
-/
import Derived.Test.YtdiacbfdfoeemaaDoorR2Con
import Derived.Test.YtdiacbfdfoeemaaDoorRParse
import Derived.Test.YtdiacbfdfoeemaaDoorNParse
namespace Go.Proofs.YtdiacbfdfoeemaaDoor
open Go Go.RowKit

/-- A text taken apart: whether it is below 0, and the digits. -/
def SApart (s : ByteArray) (b : Bool) (t : ByteArray) : Prop :=
  (∃ c : UInt8, (c = 43 ∨ c = 45) ∧ s = ⟨#[c]⟩ ++ t ∧ b = (c == 45)) ∨ (s = t ∧ b = false ∧ (s = ⟨#[]⟩ ∨ ∃ h : 0 < s.size, s[0] ≠ 43 ∧ s[0] ≠ 45))
theorem sapart (s : ByteArray) : ∃ b t, SApart s b t ∧ t.size ≤ s.size := by
  by_cases h : 0 < s.size
  · by_cases hc : s[0] = 43 ∨ s[0] = 45
    · have e : s = ⟨#[s[0]]⟩ ++ s.extract 1 s.size := by
        apply ByteArray.ext
        rw [ByteArray.data_append, ByteArray.data_extract]
        apply Array.ext'
        have hl : s.data.toList = s[0] :: s.data.toList.tail := by
          have h0 : s[0] = s.data[0] := rfl
          rw [h0]
          cases hd : s.data.toList with
          | nil =>
            have : s.size = s.data.toList.length := by rw [Array.length_toList]; rfl
            rw [hd] at this
            have h2 : s.size = 0 := this
            omega
          | cons a l =>
            have : s.data[0] = a := by
              rw [← Array.getElem_toList]
              simp [hd]
            rw [this]
            rfl
        rw [Array.toList_append, Array.toList_extract]
        simp only [List.extract]
        rw [hl]
        have hs : s.size = s.data.toList.length := by rw [Array.length_toList]; rfl
        simp
        exact (List.take_of_length_le (by rw [List.length_tail]; omega)).symm
      refine ⟨_, _, .inl ⟨s[0], hc, e, rfl⟩, ?_⟩
      rw [ByteArray.size_extract]
      omega
    · exact ⟨false, s, .inr ⟨rfl, rfl, .inr ⟨h, fun e => hc (.inl e), fun e => hc (.inr e)⟩⟩, Nat.le_refl _⟩
  · refine ⟨false, s, .inr ⟨rfl, rfl, .inl ?_⟩, Nat.le_refl _⟩
    apply ByteArray.ext
    exact Array.eq_empty_of_size_eq_zero (show s.size = 0 by omega)

open Classical in
/-- What a text taken apart says. -/
noncomputable def zval (b : Bool) (t : ByteArray) : Option Int := if Good t then some (sgn b (dec (sd t) t.size)) else none
theorem Good.digs {t : ByteArray} (g : Good t) : Digs t (dec (sd t) t.size) := ⟨sd t, g.1, g.digits, rfl⟩
theorem not_good {t : ByteArray} (g : ¬ Good t) : t.size = 0 ∨ ∃ i, ∃ h : i < t.size, t[i].toNat < 48 ∨ 57 < t[i].toNat := by
  by_cases h0 : t.size = 0
  · exact .inl h0
  · refine .inr (Classical.byContradiction fun hn => g ⟨by omega, fun i h => ?_⟩)
    apply Classical.byContradiction
    intro hc
    exact hn ⟨i, h, by omega⟩
theorem no_byte {c k : UInt8} {m : Int} (h : c ≠ k) (hm : m = (k.toNat : Int)) : ((c.toNat : Int) == m) = false := by
  subst hm
  simp
  intro e
  exact h (UInt8.toNat_inj.1 (by omega))
theorem parsed_le {f : Nat → Nat} {n : Nat} {t : ByteArray} (c : Can 4294967296 f n) (g : Good t) (s : num 4294967296 f n = dec (sd t) t.size) : n ≤ t.size + 1 := by
  refine can_pow (by decide) c ?_
  have h1 := dec_lt (d := sd t) (k := t.size) (fun i hi => (g.digits i hi).2)
  have h2 : (10 : Nat) ^ t.size ≤ 4294967296 ^ t.size := Nat.pow_le_pow_left (by decide) _
  have h3 : (4294967296 : Nat) ^ t.size ≤ 4294967296 ^ (t.size + 1) := Nat.pow_le_pow_right (by decide) (by omega)
  omega

set_option maxRecDepth 4000 in
set_option maxHeartbeats 4000000 in
theorem parsez_all (s : ByteArray) (b : Bool) (t : ByteArray) (w : World) (ha : SApart s b t) (hs : 4 * (t.size + 3) ≤ 140737488355328) :
    Calls Tryd.prog 42 #[.string s] w fun e w' => ParseEnd (zval b t) (t.size + 1) w e w' := by
  by_cases hg : Good t
  · rw [show zval b t = _ from if_pos hg]
    rcases ha with ⟨c, hc, rfl, rfl⟩ | ⟨rfl, rfl, -⟩
    · exact parsez_sign c t _ w hc hg.digs hs
    · exact parsez_plain s _ w hg.digs hs
  · rw [show zval b t = _ from if_neg hg]
    have HN := hide (not_good hg)
    clear hg
    rcases ha with ⟨c, hc, rfl, rfl⟩ | ⟨rfl, rfl, h0⟩
    · have hsz : (⟨#[c]⟩ ++ t : ByteArray).size = t.size + 1 := by rw [ByteArray.size_append]; show 1 + t.size = _; omega
      have hne := nonempty_of (⟨#[c]⟩ ++ t : ByteArray) (by omega)
      have hcut := cut_one c t
      rcases hc with rfl | rfl
      · go_enter Tryd.func42, Tryd.ntmps42
        go_wp2_with fail
        refine (parse_no t _ (by omega) (unhide HN)).mono ?_
        rintro e w1 ⟨rfl, rfl⟩
        go_wp2_with fail
        refine (numberOf_own (w.heap.size + 1) _ 0 (fun _ => 0) false _ (.inl ⟨rfl, rfl⟩) ⟨fun i hi => by omega, .inl rfl⟩).mono ?_
        rintro e w2 ⟨a2, b2, rfl, o2, u2, c2, s2⟩
        have HS2 := hide s2
        clear s2
        obtain ⟨v2, rfl, o2⟩ := o2
        obtain ⟨ao2, cap2, rfl, -⟩ := id o2.sl
        go_wp2_with fail
        refine (answer_any _ b2 0 (fun _ => 0) _ ⟨_, rfl, o2.sl⟩).mono ?_
        rintro e w3 ⟨a3, rfl, h3, u3⟩
        obtain rfl := h3 _ rfl
        obtain ⟨d0, d1, g0, g1, lt, e0, e1⟩ := res2 w.heap.size rfl (u2.tr u3)
        go_wp2_with fail
        refine bodyPost_ret (by simp [results, Tryd.results42, go_sem, e0, e1]; rfl) rfl ?_
        refine ⟨_, b2, 0, fun _ => 0, rfl, ⟨_, rfl, ((o2.up u3).set2 (by omega)).mono (by omega)⟩, Up.set2 ((up_alloc w _).tr (u2.tr u3)) (Nat.le_refl _), c2, by omega, ?_⟩
        rw [unhide HS2]
        simp [sgn, num]
      · go_enter Tryd.func42, Tryd.ntmps42
        go_wp2_with fail
        refine (parse_no t _ (by omega) (unhide HN)).mono ?_
        rintro e w1 ⟨rfl, rfl⟩
        go_wp2_with fail
        refine (numberOf_own (w.heap.size + 1) _ 0 (fun _ => 0) true _ (.inl ⟨rfl, rfl⟩) ⟨fun i hi => by omega, .inl rfl⟩).mono ?_
        rintro e w2 ⟨a2, b2, rfl, o2, u2, c2, s2⟩
        have HS2 := hide s2
        clear s2
        obtain ⟨v2, rfl, o2⟩ := o2
        obtain ⟨ao2, cap2, rfl, -⟩ := id o2.sl
        go_wp2_with fail
        refine (answer_any _ b2 0 (fun _ => 0) _ ⟨_, rfl, o2.sl⟩).mono ?_
        rintro e w3 ⟨a3, rfl, h3, u3⟩
        obtain rfl := h3 _ rfl
        obtain ⟨d0, d1, g0, g1, lt, e0, e1⟩ := res2 w.heap.size rfl (u2.tr u3)
        go_wp2_with fail
        refine bodyPost_ret (by simp [results, Tryd.results42, go_sem, e0, e1]; rfl) rfl ?_
        refine ⟨_, b2, 0, fun _ => 0, rfl, ⟨_, rfl, ((o2.up u3).set2 (by omega)).mono (by omega)⟩, Up.set2 ((up_alloc w _).tr (u2.tr u3)) (Nat.le_refl _), c2, by omega, ?_⟩
        rw [unhide HS2]
        simp [sgn, num]
    · rcases h0 with rfl | ⟨h00, k1, k2⟩
      · go_enter Tryd.func42, Tryd.ntmps42
        go_wp2_with fail
        refine (parse_no _ _ (by omega) (unhide HN)).mono ?_
        rintro e w1 ⟨rfl, rfl⟩
        go_wp2_with fail
        refine (numberOf_own (w.heap.size + 1) _ 0 (fun _ => 0) false _ (.inl ⟨rfl, rfl⟩) ⟨fun i hi => by omega, .inl rfl⟩).mono ?_
        rintro e w2 ⟨a2, b2, rfl, o2, u2, c2, s2⟩
        have HS2 := hide s2
        clear s2
        obtain ⟨v2, rfl, o2⟩ := o2
        obtain ⟨ao2, cap2, rfl, -⟩ := id o2.sl
        go_wp2_with fail
        refine (answer_any _ b2 0 (fun _ => 0) _ ⟨_, rfl, o2.sl⟩).mono ?_
        rintro e w3 ⟨a3, rfl, h3, u3⟩
        obtain rfl := h3 _ rfl
        obtain ⟨d0, d1, g0, g1, lt, e0, e1⟩ := res2 w.heap.size rfl (u2.tr u3)
        go_wp2_with fail
        refine bodyPost_ret (by simp [results, Tryd.results42, go_sem, e0, e1]; rfl) rfl ?_
        refine ⟨_, b2, 0, fun _ => 0, rfl, ⟨_, rfl, ((o2.up u3).set2 (by omega)).mono (by omega)⟩, Up.set2 ((up_alloc w _).tr (u2.tr u3)) (Nat.le_refl _), c2, by omega, ?_⟩
        rw [unhide HS2]
        simp [sgn, num]
      · have hne := nonempty_of s h00
        have e1 : ((s[0].toNat : Int) == 43) = false := no_byte k1 rfl
        have e2 : ((s[0].toNat : Int) == 45) = false := no_byte k2 rfl
        clear k1 k2
        go_enter Tryd.func42, Tryd.ntmps42
        go_wp2_with fail
        refine (parse_no _ _ (by omega) (unhide HN)).mono ?_
        rintro e w1 ⟨rfl, rfl⟩
        go_wp2_with fail
        refine (numberOf_own (w.heap.size + 1) _ 0 (fun _ => 0) false _ (.inl ⟨rfl, rfl⟩) ⟨fun i hi => by omega, .inl rfl⟩).mono ?_
        rintro e w2 ⟨a2, b2, rfl, o2, u2, c2, s2⟩
        have HS2 := hide s2
        clear s2
        obtain ⟨v2, rfl, o2⟩ := o2
        obtain ⟨ao2, cap2, rfl, -⟩ := id o2.sl
        go_wp2_with fail
        refine (answer_any _ b2 0 (fun _ => 0) _ ⟨_, rfl, o2.sl⟩).mono ?_
        rintro e w3 ⟨a3, rfl, h3, u3⟩
        obtain rfl := h3 _ rfl
        obtain ⟨d0, d1, g0, g1, lt, e0, e1⟩ := res2 w.heap.size rfl (u2.tr u3)
        go_wp2_with fail
        refine bodyPost_ret (by simp [results, Tryd.results42, go_sem, e0, e1]; rfl) rfl ?_
        refine ⟨_, b2, 0, fun _ => 0, rfl, ⟨_, rfl, ((o2.up u3).set2 (by omega)).mono (by omega)⟩, Up.set2 ((up_alloc w _).tr (u2.tr u3)) (Nat.le_refl _), c2, by omega, ?_⟩
        rw [unhide HS2]
        simp [sgn, num]

set_option maxRecDepth 4000 in
set_option maxHeartbeats 4000000 in
theorem r2parse_all (s : ByteArray) (b : Bool) (t : ByteArray) (w : World) (ha : SApart s b t) (hs : 4 * (t.size + 3) ≤ 10000000000) :
    Calls Tryd.prog 43 #[.string s] w fun e w' => ParseEnd (zval b t) (t.size + 1) w e w' := by
  rcases ha with ⟨c, hc, rfl, rfl⟩ | ⟨rfl, rfl, h0⟩
  · have hsz : (⟨#[c]⟩ ++ t : ByteArray).size = t.size + 1 := by rw [ByteArray.size_append]; show 1 + t.size = _; omega
    have hcut := cut_one c t
    rcases hc with rfl | rfl
    · rw [show ((43 : UInt8) == 45) = false from rfl]
      go_enter Tryd.func43, Tryd.ntmps43
      go_wp2_with fail
      refine (rparse_any t _ (by omega)).mono ?_
      rintro e w1 H
      obtain ⟨n1, f1, v1, o1, u1, c1, h1⟩ := unhide H
      replace u1 : Up _ w1 := u1
      clear H
      obtain ⟨ao1, cap1, rfl, -⟩ := id o1.sl
      rcases h1 with ⟨rfl, g1, s1⟩ | ⟨rfl, g1, z1⟩
      · have HS1 := hide s1
        have HZ := hide (show zval false t = some (sgn false (dec (sd t) t.size)) from if_pos g1)
        have l1 : n1 ≤ t.size + 1 := parsed_le c1 g1 s1
        clear s1 g1
        go_wp2_with fail
        refine (r2of_any false _ n1 f1 _ o1.sl c1.1 (by omega)).mono ?_
        rintro e w2 ⟨a2, b2, n2, f2, rfl, ⟨v2, rfl, o2⟩, u2, c2, l2, s2⟩
        have HS2 := hide s2
        clear s2
        obtain ⟨ao2, cap2, rfl, -⟩ := id o2.sl
        obtain ⟨d0, d1, g0, g1, lt, e0, e1⟩ := res2 w.heap.size rfl (u1.tr u2)
        go_wp2_with fail
        refine bodyPost_ret (by simp [results, Tryd.results43, go_sem, e0, e1]; rfl) rfl ?_
        rw [unhide HZ]
        refine ⟨_, b2, n2, f2, rfl, ⟨_, rfl, (o2.set2 (by have := u1.size; simp at this; omega)).mono (by have := u1.size; simp at this; omega)⟩, Up.set2 ((up_alloc w _).tr (u1.tr u2)) (Nat.le_refl _), c2, by omega, ?_⟩
        rw [unhide HS2, unhide HS1]
        rfl
      · have HZ := hide (show zval false t = none from if_neg g1)
        clear g1
        obtain ⟨d0, d1, g0, g1, lt, e0, e1⟩ := res2 w.heap.size rfl u1
        go_wp2_with fail
        refine bodyPost_ret (by simp [results, Tryd.results43, go_sem, e0, e1]; rfl) rfl ?_
        rw [unhide HZ]
        exact ⟨_, false, 0, fun _ => 0, rfl, ⟨_, rfl, .inl ⟨rfl, rfl⟩⟩, Up.set2 ((up_alloc w _).tr u1) (Nat.le_refl _), ⟨⟨fun i hi => by omega, .inl rfl⟩, fun h => by cases h⟩, by omega, by simp [sgn, num]⟩
    · rw [show ((45 : UInt8) == 45) = true from rfl]
      go_enter Tryd.func43, Tryd.ntmps43
      go_wp2_with fail
      refine (rparse_any t _ (by omega)).mono ?_
      rintro e w1 H
      obtain ⟨n1, f1, v1, o1, u1, c1, h1⟩ := unhide H
      replace u1 : Up _ w1 := u1
      clear H
      obtain ⟨ao1, cap1, rfl, -⟩ := id o1.sl
      rcases h1 with ⟨rfl, g1, s1⟩ | ⟨rfl, g1, z1⟩
      · have HS1 := hide s1
        have HZ := hide (show zval true t = some (sgn true (dec (sd t) t.size)) from if_pos g1)
        have l1 : n1 ≤ t.size + 1 := parsed_le c1 g1 s1
        clear s1 g1
        go_wp2_with fail
        refine (r2of_any true _ n1 f1 _ o1.sl c1.1 (by omega)).mono ?_
        rintro e w2 ⟨a2, b2, n2, f2, rfl, ⟨v2, rfl, o2⟩, u2, c2, l2, s2⟩
        have HS2 := hide s2
        clear s2
        obtain ⟨ao2, cap2, rfl, -⟩ := id o2.sl
        obtain ⟨d0, d1, g0, g1, lt, e0, e1⟩ := res2 w.heap.size rfl (u1.tr u2)
        go_wp2_with fail
        refine bodyPost_ret (by simp [results, Tryd.results43, go_sem, e0, e1]; rfl) rfl ?_
        rw [unhide HZ]
        refine ⟨_, b2, n2, f2, rfl, ⟨_, rfl, (o2.set2 (by have := u1.size; simp at this; omega)).mono (by have := u1.size; simp at this; omega)⟩, Up.set2 ((up_alloc w _).tr (u1.tr u2)) (Nat.le_refl _), c2, by omega, ?_⟩
        rw [unhide HS2, unhide HS1]
        rfl
      · have HZ := hide (show zval true t = none from if_neg g1)
        clear g1
        obtain ⟨d0, d1, g0, g1, lt, e0, e1⟩ := res2 w.heap.size rfl u1
        go_wp2_with fail
        refine bodyPost_ret (by simp [results, Tryd.results43, go_sem, e0, e1]; rfl) rfl ?_
        rw [unhide HZ]
        exact ⟨_, false, 0, fun _ => 0, rfl, ⟨_, rfl, .inl ⟨rfl, rfl⟩⟩, Up.set2 ((up_alloc w _).tr u1) (Nat.le_refl _), ⟨⟨fun i hi => by omega, .inl rfl⟩, fun h => by cases h⟩, by omega, by simp [sgn, num]⟩
  · rcases h0 with rfl | ⟨h00, k1, k2⟩
    · generalize ht : (⟨#[]⟩ : ByteArray) = t at *
      have hsz : t.size = 0 := by rw [← ht]; rfl
      go_enter Tryd.func43, Tryd.ntmps43
      go_wp2_with fail
      refine (rparse_any t _ (by omega)).mono ?_
      rintro e w1 H
      obtain ⟨n1, f1, v1, o1, u1, c1, h1⟩ := unhide H
      replace u1 : Up _ w1 := u1
      clear H
      obtain ⟨ao1, cap1, rfl, -⟩ := id o1.sl
      rcases h1 with ⟨rfl, g1, s1⟩ | ⟨rfl, g1, z1⟩
      · have HS1 := hide s1
        have HZ := hide (show zval false t = some (sgn false (dec (sd t) t.size)) from if_pos g1)
        have l1 : n1 ≤ t.size + 1 := parsed_le c1 g1 s1
        clear s1 g1
        go_wp2_with fail
        refine (r2of_any false _ n1 f1 _ o1.sl c1.1 (by omega)).mono ?_
        rintro e w2 ⟨a2, b2, n2, f2, rfl, ⟨v2, rfl, o2⟩, u2, c2, l2, s2⟩
        have HS2 := hide s2
        clear s2
        obtain ⟨ao2, cap2, rfl, -⟩ := id o2.sl
        obtain ⟨d0, d1, g0, g1, lt, e0, e1⟩ := res2 w.heap.size rfl (u1.tr u2)
        go_wp2_with fail
        refine bodyPost_ret (by simp [results, Tryd.results43, go_sem, e0, e1]; rfl) rfl ?_
        rw [unhide HZ]
        refine ⟨_, b2, n2, f2, rfl, ⟨_, rfl, (o2.set2 (by have := u1.size; simp at this; omega)).mono (by have := u1.size; simp at this; omega)⟩, Up.set2 ((up_alloc w _).tr (u1.tr u2)) (Nat.le_refl _), c2, by omega, ?_⟩
        rw [unhide HS2, unhide HS1]
        rfl
      · have HZ := hide (show zval false t = none from if_neg g1)
        clear g1
        obtain ⟨d0, d1, g0, g1, lt, e0, e1⟩ := res2 w.heap.size rfl u1
        go_wp2_with fail
        refine bodyPost_ret (by simp [results, Tryd.results43, go_sem, e0, e1]; rfl) rfl ?_
        rw [unhide HZ]
        exact ⟨_, false, 0, fun _ => 0, rfl, ⟨_, rfl, .inl ⟨rfl, rfl⟩⟩, Up.set2 ((up_alloc w _).tr u1) (Nat.le_refl _), ⟨⟨fun i hi => by omega, .inl rfl⟩, fun h => by cases h⟩, by omega, by simp [sgn, num]⟩
    · have e1 : ((s[0].toNat : Int) == 43) = false := no_byte k1 rfl
      have e2 : ((s[0].toNat : Int) == 45) = false := no_byte k2 rfl
      clear k1 k2
      generalize s = t at *
      go_enter Tryd.func43, Tryd.ntmps43
      go_wp2_with fail
      refine (rparse_any t _ (by omega)).mono ?_
      rintro e w1 H
      obtain ⟨n1, f1, v1, o1, u1, c1, h1⟩ := unhide H
      replace u1 : Up _ w1 := u1
      clear H
      obtain ⟨ao1, cap1, rfl, -⟩ := id o1.sl
      rcases h1 with ⟨rfl, g1, s1⟩ | ⟨rfl, g1, z1⟩
      · have HS1 := hide s1
        have HZ := hide (show zval false t = some (sgn false (dec (sd t) t.size)) from if_pos g1)
        have l1 : n1 ≤ t.size + 1 := parsed_le c1 g1 s1
        clear s1 g1
        go_wp2_with fail
        refine (r2of_any false _ n1 f1 _ o1.sl c1.1 (by omega)).mono ?_
        rintro e w2 ⟨a2, b2, n2, f2, rfl, ⟨v2, rfl, o2⟩, u2, c2, l2, s2⟩
        have HS2 := hide s2
        clear s2
        obtain ⟨ao2, cap2, rfl, -⟩ := id o2.sl
        obtain ⟨d0, d1, g0, g1, lt, e0, e1⟩ := res2 w.heap.size rfl (u1.tr u2)
        go_wp2_with fail
        refine bodyPost_ret (by simp [results, Tryd.results43, go_sem, e0, e1]; rfl) rfl ?_
        rw [unhide HZ]
        refine ⟨_, b2, n2, f2, rfl, ⟨_, rfl, (o2.set2 (by have := u1.size; simp at this; omega)).mono (by have := u1.size; simp at this; omega)⟩, Up.set2 ((up_alloc w _).tr (u1.tr u2)) (Nat.le_refl _), c2, by omega, ?_⟩
        rw [unhide HS2, unhide HS1]
        rfl
      · have HZ := hide (show zval false t = none from if_neg g1)
        clear g1
        obtain ⟨d0, d1, g0, g1, lt, e0, e1⟩ := res2 w.heap.size rfl u1
        go_wp2_with fail
        refine bodyPost_ret (by simp [results, Tryd.results43, go_sem, e0, e1]; rfl) rfl ?_
        rw [unhide HZ]
        exact ⟨_, false, 0, fun _ => 0, rfl, ⟨_, rfl, .inl ⟨rfl, rfl⟩⟩, Up.set2 ((up_alloc w _).tr u1) (Nat.le_refl _), ⟨⟨fun i hi => by omega, .inl rfl⟩, fun h => by cases h⟩, by omega, by simp [sgn, num]⟩

end Go.Proofs.YtdiacbfdfoeemaaDoor
