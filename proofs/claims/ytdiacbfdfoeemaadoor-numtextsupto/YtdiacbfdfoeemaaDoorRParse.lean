/-
  What is proved here: the document's own Parse, and the document's own Bits.
-/
import Derived.Test.YtdiacbfdfoeemaaDoorRDiv
import Derived.Test.YtdiacbfdfoeemaaDoorUp0
import Derived.Test.YtdiacbfdfoeemaaDoorTabs
import Derived.Test.YtdiacbfdfoeemaaDoorBits
import Derived.Deep.RegionWith
namespace Go.Proofs.YtdiacbfdfoeemaaDoor
open Go Go.RowKit

/-- The digit at place i of a text. -/
def sd (s : ByteArray) (i : Nat) : Nat := if h : i < s.size then s[i].toNat - 48 else 0
def Good (s : ByteArray) : Prop := 0 < s.size ∧ ∀ i (h : i < s.size), 48 ≤ s[i].toNat ∧ s[i].toNat ≤ 57
theorem Good.digits {s : ByteArray} (g : Good s) : ∀ i (h : i < s.size), s[i].toNat = 48 + sd s i ∧ sd s i ≤ 9 := by
  intro i h
  have := g.2 i h
  unfold sd
  rw [dif_pos h]
  omega

theorem Sl.onDrew {k : IntKind} {w : World} {v : Value} {n : Nat} {f : Nat → Nat} (h : Sl k w v n f) : Sl k w.drew v n f := h.up ((Below.refl w.heap.size w).drew)
theorem Sl.onAlloc {k : IntKind} {w : World} {v : Value} {n : Nat} {f : Nat → Nat} {o : Obj} (h : Sl k w v n f) : Sl k (w.alloc o) v n f := h.up (below_alloc w o)
theorem Up.onDrew {w w' : World} (h : Up w w') : Up w w'.drew := Below.drew h
theorem Up.onAlloc {w w' : World} {o : Obj} (h : Up w w') : Up w (w'.alloc o) := h.tr (below_alloc w' o)
theorem litIP (w : World) (E : TypeId) (a : Nat) : Sl .i64 (w.alloc (.cells #[.int .i64 a] E)) (.slice (some ⟨w.heap.size, 0, none⟩) 1 1) 1 (fun _ => a) :=
  (row_lit w E .i64 #[.int .i64 a] 1 (fun _ => a) rfl (fun i hi => by obtain rfl : i = 0 := (by omega); rfl)).sl (by omega)
theorem litZ (w : World) (E : TypeId) (z : Int) (a b : Nat) (hz : z = (a : Int)) (hb : b = w.heap.size) : Sl .i64 (w.alloc (.cells #[.int .i64 z] E)) (.slice (some ⟨b, 0, none⟩) 1 1) 1 (fun _ => a) := by
  subst hz hb
  exact litIP w E a

set_option maxHeartbeats 1000000 in
theorem rparse_any (s : ByteArray) (w : World) (hs : s.size ≤ 10000000000) :
    Calls Tryd.prog 71 #[.string s] w fun e w' => Hid (∃ (n : Nat) (f : Nat → Nat) (v : Value), Own .u32 64 w' w.heap.size v n f ∧ Below w.heap.size w w' ∧ Can 4294967296 f n ∧
      ((e = .returned (.tuple #[v, .bool true]) ∧ Good s ∧ num 4294967296 f n = dec (sd s) s.size) ∨ (e = .returned (.tuple #[v, .bool false]) ∧ ¬ Good s ∧ n = 0))) := by
  go_enter Tryd.func71, Tryd.ntmps71
  go_wp2_with fail
  go_loopw [4, 5] (fun u4 t5 wr => ∃ (i n : Nat) (f : Nat → Nat), i ≤ s.size ∧ t5 = .int .i64 i ∧ Sl .i64 wr u4 n f ∧ Below w.heap.size w wr ∧ (∀ j, j < n → f j < 65536) ∧ n ≤ 3 * i ∧ Hid (num 65536 f n = dec (sd s) i ∧ ∀ j (h : j < s.size), j < i → 48 ≤ s[j].toNat ∧ s[j].toNat ≤ 57)) (fun _ t5 _ => s.size - (intOf t5).toNat)
  case atStart => exact ⟨0, 0, fun _ => 0, by omega, rfl, ⟨none, 0, rfl, Nat.le_refl _, by omega, fun _ => rfl, .inl rfl⟩, Below.refl _ _, fun j hj => by omega, by omega, hide ⟨rfl, fun j h hj => by omega⟩⟩
  case round =>
    obtain ⟨i, n, f, hi, rfl, hsl, hb, hd, hn, HN⟩ := hrel
    replace hb : Up w wr := hb
    by_cases hlt : i < s.size
    · have hsz := Below.size hb
      obtain ⟨ao, cap, rfl, -⟩ := id hsl
      by_cases hg : 48 ≤ s[i].toNat ∧ s[i].toNat ≤ 57
      · have hg1 := hg.1
        have hg2 := hg.2
        have HS := hide (show sd s i = s[i].toNat - 48 by unfold sd; rw [dif_pos hlt])
        have HALL := hide (fun j (h : j < s.size) (hj : j < i + 1) => show 48 ≤ s[j].toNat ∧ s[j].toNat ≤ 57 by
          by_cases e : j = i
          · subst e; exact hg
          · exact (unhide HN).2 j h (by omega))
        clear hg
        go_wp2_with fail
        generalize hcc : s[i].toNat = c at *
        obtain ⟨x, rfl⟩ : ∃ x, c = 48 + x := ⟨c - 48, by omega⟩
        have hx9 : x ≤ 9 := by omega
        have hwx : IntKind.i64.wrap (IntKind.u8.wrap (48 + (x : Int) - 48)) = (x : Int) := by
          simp only [IntKind.wrap, IntKind.bits, IntKind.signed]
          simp
          omega
        have HWX := hide hwx
        clear hwx
        go_region_with (first
          | (go_at_call 80; refine (rmul_any _ _ n 1 f (fun _ => 10) _ ?slA ?slB hd ?c1 ?c2 ?c3).mono ?_; (case slA => (repeat' first | with_reducible exact hsl | with_reducible apply Sl.onDrew | with_reducible apply Sl.onAlloc)); (case slB => (repeat' first | with_reducible apply Sl.onDrew | (with_reducible refine litZ _ _ _ _ _ ?h1 ?h2; (case h1 => (first | omega | exact unhide HWX)); (case h2 => (first | rfl | simp))) | with_reducible apply Sl.onAlloc)); (case c1 => exact fun _ _ => (by decide : 10 < 65536)); (case c2 => omega); (case c3 => omega); rintro e w6 HX; obtain ⟨n6, f6, a6, rfl, o6, b6, c6, l6, p6⟩ := unhide HX; replace b6 : Up _ w6 := b6; have s6 := o6.sl; rw [num_one] at p6; have P6 := hide p6; clear p6 HX o6)
          | (go_at_call 96; refine (radd_any _ _ n6 1 f6 (fun _ => x) _ ?slA ?slB c6.1 ?c1 ?c2 ?c3).mono ?_; (case slA => (repeat' first | with_reducible exact s6 | with_reducible apply Sl.onDrew | with_reducible apply Sl.onAlloc)); (case slB => (repeat' first | with_reducible apply Sl.onDrew | (with_reducible refine litZ _ _ _ _ _ ?h1 ?h2; (case h1 => (first | omega | exact unhide HWX)); (case h2 => (first | rfl | simp))) | with_reducible apply Sl.onAlloc | with_reducible refine Sl.up ?_ b6)); (case c1 => exact fun _ _ => (by omega)); (case c2 => omega); (case c3 => omega); rintro e w7 ⟨n7, f7, a7, rfl, o7, b7, c7, l7, p7⟩; replace b7 : Up _ w7 := b7; have s7 := o7.sl; rw [num_one] at p7; have P7 := hide p7; clear p7 o7 s6))
        all_goals
          go_wp2_with fail
          go_roundw
          case rel =>
            refine ⟨i + 1, n7, f7, by omega, by go_num, s7, ?_, c7.1, by omega, hide ⟨?_, unhide HALL⟩⟩
            · refine Up.tr ?_ b7
              repeat' first | exact hb | with_reducible apply Up.onDrew | with_reducible apply Up.onAlloc | with_reducible refine Up.tr ?_ b6
            · have h1 := unhide P7
              have h2 := unhide P6
              have h3 := (unhide HN).1
              have h4 := unhide HS
              show num 65536 f7 n7 = dec (sd s) i * 10 + sd s i
              rw [h1, h2, h3, h4]
              omega
          case measure => simp [intOf]; omega
      · have hgc : s[i].toNat < 48 ∨ 57 < s[i].toNat := by omega
        have hng : ¬ Good s := fun g => hg (g.2 i hlt)
        have HG := hide hng
        clear hng hg
        generalize hcc : s[i].toNat = c at *
        rcases hgc with hgc | hgc
        · go_wp2_with fail
          go_ret2
          exact hide ⟨0, fun _ => 0, .slice none 0 0, .inl ⟨rfl, rfl⟩, hb, ⟨fun j hj => by omega, .inl rfl⟩, .inr ⟨rfl, unhide HG, rfl⟩⟩
        · have h48 : ¬ c < 48 := by omega
          go_wp2_with fail
          go_ret2
          exact hide ⟨0, fun _ => 0, .slice none 0 0, .inl ⟨rfl, rfl⟩, hb, ⟨fun j hj => by omega, .inl rfl⟩, .inr ⟨rfl, unhide HG, rfl⟩⟩
    · obtain rfl : i = s.size := by omega
      go_wp2_with fail
      refine (full_any _ n f _ hsl hd (by omega)).mono ?_
      rintro e w8 ⟨n8, f8, v8, rfl, o8, b8, c8, l8, p8⟩
      replace b8 : Up wr w8 := b8
      have P8 := hide p8
      have hsz := Below.size hb
      clear p8
      have hown := o8.mono (base' := w.heap.size) (by omega)
      have hup : Up w w8 := Up.tr hb b8
      by_cases h0 : s.size = 0
      · have hn0 : n8 = 0 := by omega
        subst hn0
        have hb0 : (0 : Int) < (s.size : Int) ↔ False := by simp [h0]
        go_wp2_with fail
        go_ret2
        refine hide ⟨0, f8, v8, hown, hup, c8, .inr ⟨?_, fun g => by have := g.1; omega, rfl⟩⟩
        simp
      · have hb0 : (0 : Int) < (s.size : Int) := by omega
        go_wp2_with fail
        go_ret2
        refine hide ⟨n8, f8, v8, hown, hup, c8, .inl ⟨?_, ⟨by omega, fun j h => (unhide HN).2 j h h⟩, ?_⟩⟩
        · simp
          try omega
        · rw [unhide P8]
          exact (unhide HN).1

end Go.Proofs.YtdiacbfdfoeemaaDoor
