/-
  What is proved here: package value's Bytes of a text: its bytes, in new memory.
-/
import Derived.Test.YtchdfenickjiiaaVBytes
namespace Go.Proofs.Ytchdfenickjiiaa
open Go Go.RowKit

/-- Bytes of its own, that can be told: they lie somewhere. -/
def OwnB (w wr : World) (v : Value) (n : Nat) (f : Nat → Nat) : Prop := (∃ b cap, v = .slice (some ⟨b, 0, none⟩) n cap ∧ w.heap.size ≤ b ∧ cap ≤ 9223372036854775807 ∧ RowAt .u8 5 wr b cap n f) ∧ Fr (fun _ => False) w wr
theorem OwnB.own {w wr : World} {v : Value} {n : Nat} {f : Nat → Nat} (h : OwnB w wr v n f) : Own .u8 5 wr w.heap.size v n f := by
  obtain ⟨⟨b, cap, h1, h2, h3, h4⟩, _⟩ := h
  exact .inr ⟨b, cap, h1, h2, h3, h4⟩
theorem OwnB.le {w wr : World} {v : Value} {n : Nat} {f : Nat → Nat} (h : OwnB w wr v n f) : ∃ b cap, v = .slice (some ⟨b, 0, none⟩) n cap ∧ n ≤ cap ∧ w.heap.size ≤ b ∧ cap ≤ 9223372036854775807 := by
  obtain ⟨⟨b, cap, h1, h2, h3, h4⟩, _⟩ := h
  exact ⟨b, cap, h1, h4.le, h2, h3⟩
theorem OwnB.drewN {w wr : World} {v : Value} {n : Nat} {f : Nat → Nat} (h : OwnB w wr v n f) (q : Nat) : OwnB w (wr.drewN q) v n f := by
  obtain ⟨⟨b, cap, h1, h2, h3, h4⟩, F⟩ := h
  exact ⟨⟨b, cap, h1, h2, h3, h4.block rfl⟩, F.drewN q⟩
theorem OwnB.snoc {w wr w9 : World} {v : Value} {n : Nat} {f : Nat → Nat} (h : OwnB w wr v n f) {o : Obj} {g cap x : Nat} (hown : w9.ownsRow w.heap.size 5 1 (.slice (some ⟨g, 0, none⟩) (n + 1) cap) (n + 1) (cellsOf .u8 f n ++ [.int .u8 x])) (hx : f n = x) (hg : (wr.alloc o).grownBy w9 v.ownBlock) : OwnB w w9 (.slice (some ⟨g, 0, none⟩) (n + 1) cap) (n + 1) f := by
  obtain ⟨⟨b, c, h1, h2, h3, h4⟩, F⟩ := h
  have ho := Own.snocF hown hx
  refine ⟨?_, (F.alloc o).grow hg (fun k hk e => ?_)⟩
  · rcases ho with ⟨e, _⟩ | ⟨b', c', e, h5, h6, h7⟩
    · cases e
    · exact ⟨b', c', e, h5, h6, h7⟩
  · rw [h1] at e
    have e2 : b = k := by simpa [Value.ownBlock] using e
    omega

set_option maxRecDepth 20000 in
set_option maxHeartbeats 4000000 in
theorem bytes_yes (w : World) (sb hb : Nat) (X : Nat → Prop) (sz : Nat) (tm : Int) (n : Nat) (f : Nat → Nat) (st : Nat → Bool) (x : Nat) (g : Nat → Nat) (len : Nat) (h : HeapAt w hb X sz tm n f st) (hS : w.cell? ⟨sb, 0, none⟩ = some (.pointer (some ⟨hb, 0, none⟩))) (hx : x < 18446744073709551616) (ht : TextAt f st x g len) :
    Calls Try.prog 39 #[.pointer (some ⟨sb, 0, none⟩), .int .u64 (x : Int)] w fun e w' => ∃ v, e = .returned (.tuple #[v, .bool true]) ∧ Own .u8 5 w' w.heap.size v len g ∧ (∃ b cap, v = .slice (some ⟨b, 0, none⟩) len cap ∧ len ≤ cap) ∧ Fr (fun _ => False) w w' := by
  obtain ⟨iB, hiB, hz0, hz1, hz2⟩ := info_parts infoB
  obtain ⟨K, hK⟩ : ∃ K, K = (len + 7) / 8 := ⟨_, rfl⟩
  have hsm := ht.small
  have hsl : sb < w.heap.size := World.block_lt_of_cell? _ _ hS
  have KI := isText_yes w sb hb X sz tm n f st x g len h hS hx ht
  have KR := fun (w1 : World) (hF : Fr (fun _ => False) w w1) => heapRaws_any w1 hb X sz tm n f st x (h.fr hF (fun _ _ e => e)) hx
  rw [ht.raws, ← hK] at KR
  have KW := fun (w1 : World) (hF : Fr (fun _ => False) w w1) (i : Nat) (hi : i < 1 + K) => (by
    have := vraw_any w1 sb hb X sz tm n f st x i (h.fr hF (fun _ _ e => e)) ((hF.cell hsl (fun e => e)).trans hS) hx
    rw [ht.raw (by omega)] at this
    exact this : Calls Try.prog 70 #[.pointer (some ⟨sb, 0, none⟩), .int .u64 (x : Int), .int .i64 (i : Int)] w1 fun e w' => e = .returned (.int .u64 (textW g len i : Int)) ∧ ∃ q, w' = w1.drewN q)
  have hbyte := ht.byte
  have hlK : len ≤ 8 * K := by omega
  rw [← hK] at hsm
  obtain ⟨R, hR⟩ : ∃ R, R = 1 + K := ⟨_, rfl⟩
  rw [← hR] at KR
  have HKI := hide KI
  have HKR := hide KR
  have HKW := hide KW
  have HB := hide hbyte
  have HR := hide hR
  have hRl : R ≤ 1048576 := by omega
  clear KI KR KW hbyte h ht hK hR
  go_enter Try.func39, Try.ntmps39
  go_wp2_with (first
    | (go_at_call 80; refine HKI.out.mono ?_; rintro e w1 ⟨rfl, q1, rfl⟩)
    | (go_at_call 71; refine (HKR.out _ ((Fr.refl _ w).drewN q1)).mono ?_; rintro e w2 ⟨rfl, q2, hq2⟩; replace hq2 : w2 = w.drewN (q1 + q2) := (by rw [hq2]; simp); subst hq2)
    | (at_make; refine wpList_mkBc rfl _ _ rfl .i64 .i64 _ _ (R * 8) rfl rfl rfl (by simp) (by omega) ?_; intro w3 R3 F3; have HF3 : Hid (Fr (fun _ => False) w w3) := hide (Fr.trans ((Fr.refl _ w).drewN (q1 + q2)) F3 (fun _ _ e => e)); have HR3 := hide R3; clear R3 F3))
  go_loopw [6, 7] (fun a6 a7 wr => ∃ k : Nat, k ≤ K ∧ a7 = .int .i64 ((k + 1 : Nat) : Int) ∧ OwnB w wr a6 (8 * k) (byteF g len)) (fun _ a7 _ => R - (intOf a7).toNat)
  case atStart => exact ⟨0, Nat.zero_le _, rfl, ⟨_, _, rfl, Nat.le_refl _, by omega, HR3.out.congr (fun i hi => by omega)⟩, HF3.out⟩
  case round =>
    obtain ⟨k, hk, rfl, hO⟩ := hrel
    have c0 := (hO.2.cell (o := 0) hsl (fun e => e)).trans hS
    by_cases hlt : k < K
    · have hkR : ((k + 1 : Nat) : Int) < (R : Int) := by have := HR.out; omega
      obtain ⟨W, hW⟩ : ∃ W, W = wordOf g len k := ⟨_, rfl⟩
      have hWt : textW g len (k + 1) = W := by rw [hW]; simp [textW]
      have KW := HKW.out
      have KW1 := fun (w1 : World) (hF : Fr (fun _ => False) w w1) => KW w1 hF (k + 1) (by omega)
      rw [hWt] at KW1
      have HKW1 := hide KW1
      have HO := hide hO
      have HW := hide hW
      obtain ⟨i, hi⟩ : ∃ i, i = k + 1 := ⟨_, rfl⟩
      have HI := hide hi
      rw [← hi] at hkR HKW1 ⊢
      clear KW KW1 hO hWt hW hi
      go_wp2_with (first
        | (go_at_call 71; refine (HKR.out _ HO.out.2).mono ?_; rintro e w4 ⟨rfl, q4, rfl⟩)
        | (go_at_call 70; refine (HKW1.out _ (HO.out.2.drewN q4)).mono ?_; rintro e w5 ⟨rfl, q5, hq5⟩; replace hq5 : w5 = wr.drewN (q4 + q5) := (by rw [hq5]; simp); subst hq5))
      go_loopw [6, 8, 35] (fun a6 a8 a35 wi => ∃ j : Nat, j ≤ 8 ∧ a35 = .int .i64 (j : Int) ∧ a8 = .int .u64 ((W / 256 ^ j : Nat) : Int) ∧ OwnB w wi a6 (8 * k + j) (byteF g len)) (fun _ _ a35 _ => 8 - (intOf a35).toNat)
      case atStart => exact ⟨0, by omega, rfl, by simp, HO.out.drewN _⟩
      case round =>
        obtain ⟨j, hj, rfl, rfl, hOj⟩ := hrel
        obtain ⟨bj, cj, hvj, hcj, hbj, hcl⟩ := hOj.le
        subst hvj
        by_cases hj8 : j < 8
        · obtain ⟨y, hy⟩ : ∃ y, y = W / 256 ^ j := ⟨_, rfl⟩
          rw [← hy]
          have hjI : (j : Int) < 8 := by omega
          have hu8 := u8w y
          have hrow := hOj.own.row
          have hxf : byteF g len (8 * k + j) = y % 256 := by
            unfold byteF
            rw [show (8 * k + j) / 8 = k by omega, show (8 * k + j) % 8 = j by omega, hy, HW.out]
          have hsz2 := hOj.2.size
          have hyn : y / 256 = W / 256 ^ (j + 1) := by rw [hy, Nat.div_div_eq_div_mul, Nat.pow_succ]
          have HOj := hide hOj
          have HX := hide hxf
          have HY := hide hyn
          clear hOj hxf hy hyn
          go_wp2_with (at_builtin; refine wpList_append_lies _ rfl _ _ 38 rfl w.heap.size 5 iB (.int .u8 0) 1 1 Try.underlying38 hiB hz0 hz1 hz2 rfl (by decide) _ (8 * k + j) _ rfl (hrow.alloc _) ⟨wr.heap.size, 0, none⟩ 1 1 [.int .u8 ((y % 256 : Nat) : Int)] rfl rfl (hcells_one _ _ _) (fun u hu => by simp at hu; subst hu; rfl) (by decide) (by unfold maxLen; omega) (by omega) (by simp; omega) (wr.heap.size + 1) (by simp) ?_; intro g9 cap9 w9 hown9 hgrow9 _ _; have O9 := HOj.out.snoc hown9 HX.out hgrow9; have HO9 := hide O9; clear O9 hown9 hgrow9)
          refine ⟨⟨j + 1, by omega, by go_num, ?_, HO9.out⟩, ?_⟩
          · rw [← HY.out]
            simp
          · simp [intOf]
            omega
        · have hj9 : j = 8 := by omega
          subst hj9
          have HOj := hide hOj
          clear hOj
          go_wp2
          refine ⟨⟨k + 1, by omega, ?_, by have := HOj.out; rw [show 8 * k + 8 = 8 * (k + 1) by omega] at this; exact this⟩, ?_⟩
          · rw [HI.out]
            go_num
          · have := HI.out
            simp [intOf]
            omega
    · have hkK : k = K := by omega
      subst hkK
      obtain ⟨b, cap, hv, hc, hbb, hcl⟩ := hO.le
      subst hv
      have hge : ¬ (((k + 1 : Nat) : Int) < (R : Int)) := by have := HR.out; omega
      have KW0 := fun (w1 : World) (hF : Fr (fun _ => False) w w1) => HKW.out w1 hF 0 (by omega)
      have et : textW g len 0 = len := by simp [textW]
      rw [et] at KW0
      have HKW0 := hide KW0
      have HO := hide hO
      have hlc : (len : Int) ≤ (cap : Int) := by omega
      have hll : len ≤ 8388608 := by have := HR.out; omega
      clear KW0 et hO
      obtain ⟨i, hi⟩ : ∃ i, i = k + 1 := ⟨_, rfl⟩
      have HI := hide hi
      rw [← hi] at hge ⊢
      clear hi
      go_wp2_with (first
        | (go_at_call 71; refine (HKR.out _ HO.out.2).mono ?_; rintro e w4 ⟨rfl, q4, rfl⟩)
        | (go_at_call 70; refine (HKW0.out _ (HO.out.2.drewN q4)).mono ?_; rintro e w5 ⟨rfl, q5, hq5⟩; replace hq5 : w5 = wr.drewN (q4 + q5) := (by rw [hq5]; simp); subst hq5))
      go_ret2
      obtain ⟨⟨b', c', e1, e2, e3, cur, r1, r2, r3, r4⟩, FF⟩ := HO.out.drewN (q4 + q5)
      cases e1
      refine ⟨_, rfl, .inr ⟨_, _, rfl, e2, e3, cur, r1, r2, by omega, fun i hi => ?_⟩, ⟨_, _, rfl, by omega⟩, FF⟩
      rw [r4 i (by omega), byteF_at HB.out hi]

end Go.Proofs.Ytchdfenickjiiaa
