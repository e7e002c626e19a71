/-
  What is proved here: package show's letter, textByte, text.
-/
import Derived.Test.YtfplplobhmacoaaGreatDoorSAtoms
namespace Go.Proofs.YtfplplobhmacoaaGreatDoor
open Go Go.RowKit

theorem pcs_new (w : World) (l : List ByteArray) (cap : Nat) : PcsAt (w.alloc (.cells (l.map Value.string).toArray 9)) (.slice (some ⟨w.heap.size, 0, none⟩) l.length cap) l :=
  ⟨_, cap, rfl, .inr ⟨_, rfl, heap_alloc_new w _⟩⟩

/-- show's put of new pieces. -/
theorem put_new (w0 : World) (tb : Nat) (out : List UInt8) (σ : List RowP) (l : List ByteArray) (cap : Nat) (w : World) (h : TS w0 tb out σ w) (hlen : out.length + (flat l).length ≤ 140737488355328) (hl : l.length ≤ 1000) :
    Calls Tryz.prog 38 #[.pointer (some ⟨tb, 0, none⟩), .slice (some ⟨w.heap.size, 0, none⟩) l.length cap] (w.alloc (.cells (l.map Value.string).toArray 9)) fun e w' => e = .returned (.tuple #[]) ∧ TS w0 tb (out ++ flat l) σ w' ∧ Below w0.heap.size w w' ∧ Kp tb w w' := by
  refine (put_ts w0 tb out σ l _ _ (h.more (up_alloc w _)) (pcs_new w l cap) hlen hl).mono ?_
  rintro e w' ⟨rfl, h1, h2, h3⟩
  exact ⟨rfl, h1, ((Below.refl _ w).alloc h.up.size _).trans h2, ((Kp.refl tb w).alloc _).trans h3⟩

theorem TS.kp {w0 : World} {tb : Nat} {out : List UInt8} {σ : List RowP} {w : World} (h : TS w0 tb out σ w) : w0.heap.size ≤ w.heap.size := h.up.size

set_option maxHeartbeats 2000000 in
set_option maxRecDepth 100000 in
theorem letter_any (w0 : World) (tb : Nat) (out : List UInt8) (σ : List RowP) (n : Int) (hn : -9223372036854775808 ≤ n ∧ n ≤ 9223372036854775807) (sh : Bool) (w : World) (h : TS w0 tb out σ w) (hlen : out.length + 100 ≤ 140737488355328) :
    Calls Tryz.prog 41 #[.pointer (some ⟨tb, 0, none⟩), .int .i64 n, .int .i64 (howI sh)] w fun e w' => e = .returned (.tuple #[]) ∧ TS w0 tb (out ++ (if sh then [(n % 256).toNat.toUInt8] else [35, 92] ++ chW n)) σ w' := by
  cases sh
  · have hcl := chW_le n
    have KL := fun w => letterName_any n hn w
    generalize chW n = c at *
    have KP := fun (W : World) (hW : TS w0 tb out σ W) => put_new w0 tb out σ [⟨#[35, 92]⟩, ⟨c.toArray⟩] 2 W hW (by simp [flat]; omega) (by simp)
    have e1 : flat [⟨#[35, 92]⟩, ⟨c.toArray⟩] = [35, 92] ++ c := by simp [flat]
    rw [e1] at KP
    simp only [List.map_cons, List.map_nil, List.length_cons, List.length_nil, Nat.zero_add, Nat.reduceAdd] at KP
    have HL := hide KL
    have HP := hide KP
    have HH := hide h
    simp only [howI, Bool.false_eq_true, if_false]
    clear KL KP h e1
    go_enter Tryz.func41, Tryz.ntmps41
    go_wp2_with (first
      | (go_at_call 61; refine (HL.out _).mono ?_; rintro e w2 ⟨rfl, hu2⟩; have HU2 := hide hu2; clear hu2)
      | (go_at_call 38; refine (HP.out _ (HH.out.more HU2.out)).mono ?_; rintro e w3 ⟨rfl, h3, -, -⟩))
    go_end0
    exact ⟨rfl, h3⟩
  · have hb : n % 256 = (((n % 256).toNat.toUInt8).toNat : Int) := by simp; omega
    have KL := fun w => oneByte_any ((n % 256).toNat.toUInt8) w
    rw [← hb] at KL
    generalize (n % 256).toNat.toUInt8 = c at *
    have KP := fun (W : World) (hW : TS w0 tb out σ W) => put_new w0 tb out σ [⟨#[c]⟩] 1 W hW (by simp [flat]; omega) (by simp)
    have e1 : flat [⟨#[c]⟩] = [c] := by simp [flat]
    rw [e1] at KP
    simp only [List.map_cons, List.map_nil, List.length_cons, List.length_nil, Nat.zero_add] at KP
    have HL := hide KL
    have HP := hide KP
    have HH := hide h
    simp only [howI, if_true]
    clear KL KP h e1 hb
    go_enter Tryz.func41, Tryz.ntmps41
    go_wp2_with (first
      | (go_at_call 60; refine (HL.out _).mono ?_; rintro e w2 ⟨rfl, hu2⟩; have HU2 := hide hu2; clear hu2)
      | (go_at_call 38; refine (HP.out _ (HH.out.more HU2.out)).mono ?_; rintro e w3 ⟨rfl, h3, -, -⟩))
    ((try simp only [Exit.inBlock, Exit.then]); refine bodyPost_ret (results_none rfl _ _ _) rfl ?_)
    exact ⟨rfl, h3⟩

set_option maxHeartbeats 4000000 in
set_option maxRecDepth 100000 in
theorem textByte_any (w0 : World) (tb : Nat) (out : List UInt8) (σ : List RowP) (b : UInt8) (w : World) (h : TS w0 tb out σ w) (hlen : out.length + 100 ≤ 140737488355328) :
    Calls Tryz.prog 62 #[.pointer (some ⟨tb, 0, none⟩), .int .u8 (b.toNat : Int)] w fun e w' => e = .returned (.tuple #[]) ∧ TS w0 tb (out ++ tbW b) σ w' := by
  have KL := fun w => oneByte_any b w
  have KT := fun w => twoDigits_any b w
  unfold tbW
  obtain ⟨n, hn⟩ : ∃ n, n = b.toNat := ⟨_, rfl⟩
  have hb : n < 256 := by rw [hn]; exact b.toNat_lt
  have q34 : b = 34 ↔ n = 34 := by rw [hn]; exact UInt8.toNat_inj.symm
  have q92 : b = 92 ↔ n = 92 := by rw [hn]; exact UInt8.toNat_inj.symm
  have q10 : b = 10 ↔ n = 10 := by rw [hn]; exact UInt8.toNat_inj.symm
  have q9 : b = 9 ↔ n = 9 := by rw [hn]; exact UInt8.toNat_inj.symm
  have q32 : b < 32 ↔ n < 32 := by rw [hn]; exact UInt8.lt_iff_toNat_lt
  have q126 : 126 < b ↔ 126 < n := by rw [hn]; exact UInt8.lt_iff_toNat_lt
  rw [← hn] at KL KT ⊢
  simp only [q34, q92, q10, q9, q32, q126]
  have HL := hide KL
  have HH := hide h
  clear q34 q92 q10 q9 q32 q126 KL h hn
  by_cases h1 : n = 34 ∨ n = 92
  · rw [if_pos h1]
    have KP := fun (W : World) (hW : TS w0 tb out σ W) => put_new w0 tb out σ [⟨#[92]⟩, ⟨#[b]⟩] 2 W hW (by simp [flat]; omega) (by simp)
    have e1 : flat [⟨#[92]⟩, ⟨#[b]⟩] = [92, b] := by simp [flat]
    rw [e1] at KP
    simp only [List.map_cons, List.map_nil, List.length_cons, List.length_nil, Nat.zero_add, Nat.reduceAdd] at KP
    have HP := hide KP
    clear KP e1 KT
    rcases h1 with h1 | h1
    · subst h1
      go_enter Tryz.func62, Tryz.ntmps62
      go_wp2_with (first
        | (go_at_call 60; refine (HL.out _).mono ?_; rintro e w2 ⟨rfl, hu2⟩; have HU2 := hide hu2; clear hu2)
        | (go_at_call 38; refine (HP.out _ (HH.out.more HU2.out)).mono ?_; rintro e w3 ⟨rfl, h3, -, -⟩))
      go_end0
      exact ⟨rfl, h3⟩
    · subst h1
      go_enter Tryz.func62, Tryz.ntmps62
      go_wp2_with (first
        | (go_at_call 60; refine (HL.out _).mono ?_; rintro e w2 ⟨rfl, hu2⟩; have HU2 := hide hu2; clear hu2)
        | (go_at_call 38; refine (HP.out _ (HH.out.more HU2.out)).mono ?_; rintro e w3 ⟨rfl, h3, -, -⟩))
      go_end0
      exact ⟨rfl, h3⟩
  rw [if_neg h1]
  have h11 : ¬ n = 34 := fun e => h1 (.inl e)
  have h12 : ¬ n = 92 := fun e => h1 (.inr e)
  clear h1
  by_cases h2 : n = 10
  · rw [if_pos h2]
    subst h2
    have KP := fun (W : World) (hW : TS w0 tb out σ W) => put_new w0 tb out σ [⟨#[92, 110]⟩] 1 W hW (by simp [flat]; omega) (by simp)
    have e1 : flat [⟨#[92, 110]⟩] = [92, 110] := by simp [flat]
    rw [e1] at KP
    simp only [List.map_cons, List.map_nil, List.length_cons, List.length_nil, Nat.zero_add] at KP
    have HP := hide KP
    clear KP e1 KT
    go_enter Tryz.func62, Tryz.ntmps62
    go_wp2_with (go_at_call 38; refine (HP.out _ HH.out).mono ?_; rintro e w3 ⟨rfl, h3, -, -⟩)
    go_end0
    exact ⟨rfl, h3⟩
  rw [if_neg h2]
  by_cases h3 : n = 9
  · rw [if_pos h3]
    subst h3
    have KP := fun (W : World) (hW : TS w0 tb out σ W) => put_new w0 tb out σ [⟨#[92, 116]⟩] 1 W hW (by simp [flat]; omega) (by simp)
    have e1 : flat [⟨#[92, 116]⟩] = [92, 116] := by simp [flat]
    rw [e1] at KP
    simp only [List.map_cons, List.map_nil, List.length_cons, List.length_nil, Nat.zero_add] at KP
    have HP := hide KP
    clear KP e1 KT
    go_enter Tryz.func62, Tryz.ntmps62
    go_wp2_with (go_at_call 38; refine (HP.out _ HH.out).mono ?_; rintro e w3 ⟨rfl, h3, -, -⟩)
    go_end0
    exact ⟨rfl, h3⟩
  rw [if_neg h3]
  by_cases h4 : n < 32 ∨ 126 < n
  · rw [if_pos h4]
    unfold two at *
    generalize hexd (n / 16) = x at *
    generalize hexd (n % 16) = y at *
    have KP := fun (W : World) (hW : TS w0 tb out σ W) => put_new w0 tb out σ [⟨#[92, 120]⟩, ⟨#[x, y]⟩, ⟨#[59]⟩] 3 W hW (by simp [flat]; omega) (by simp)
    have e1 : flat [⟨#[92, 120]⟩, ⟨#[x, y]⟩, ⟨#[59]⟩] = 92 :: 120 :: ([x, y] ++ [59]) := by simp [flat]
    rw [e1] at KP
    simp only [List.map_cons, List.map_nil, List.length_cons, List.length_nil, Nat.zero_add, Nat.reduceAdd] at KP
    have HP := hide KP
    have HT := hide KT
    clear KP e1 KT
    rcases Nat.lt_or_ge n 32 with h5 | h5
    · clear h4
      go_enter Tryz.func62, Tryz.ntmps62
      go_wp2_with (first
        | (go_at_call 74; refine (HT.out _).mono ?_; rintro e w2 ⟨rfl, hu2⟩; have HU2 := hide hu2; clear hu2)
        | (go_at_call 38; refine (HP.out _ (HH.out.more HU2.out)).mono ?_; rintro e w3 ⟨rfl, h3, -, -⟩))
      go_end0
      exact ⟨rfl, h3⟩
    · have h6 : 126 < n := by omega
      clear h4
      go_enter Tryz.func62, Tryz.ntmps62
      go_wp2_with (first
        | (go_at_call 74; refine (HT.out _).mono ?_; rintro e w2 ⟨rfl, hu2⟩; have HU2 := hide hu2; clear hu2)
        | (go_at_call 38; refine (HP.out _ (HH.out.more HU2.out)).mono ?_; rintro e w3 ⟨rfl, h3, -, -⟩))
      go_end0
      exact ⟨rfl, h3⟩
  rw [if_neg h4]
  have h5 : ¬ n < 32 := by omega
  have h6 : ¬ 126 < n := by omega
  have KP := fun (W : World) (hW : TS w0 tb out σ W) => put_new w0 tb out σ [⟨#[b]⟩] 1 W hW (by simp [flat]; omega) (by simp)
  have e1 : flat [⟨#[b]⟩] = [b] := by simp [flat]
  rw [e1] at KP
  simp only [List.map_cons, List.map_nil, List.length_cons, List.length_nil, Nat.zero_add] at KP
  have HP := hide KP
  clear KP e1 KT h4
  go_enter Tryz.func62, Tryz.ntmps62
  go_wp2_with (first
    | (go_at_call 60; refine (HL.out _).mono ?_; rintro e w2 ⟨rfl, hu2⟩; have HU2 := hide hu2; clear hu2)
    | (go_at_call 38; refine (HP.out _ (HH.out.more HU2.out)).mono ?_; rintro e w3 ⟨rfl, h3, -, -⟩))
  go_end0
  exact ⟨rfl, h3⟩

end Go.Proofs.YtfplplobhmacoaaGreatDoor
